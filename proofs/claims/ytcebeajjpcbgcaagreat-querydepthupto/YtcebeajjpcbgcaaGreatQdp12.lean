import Derived.Test.YtcebeajjpcbgcaaGreatQdp11
import Derived.Test.YtcebeajjpcbgcaaGreatQdp7
import Derived.Test.YtcebeajjpcbgcaaGreatQdp8
import Derived.Test.YtcebeajjpcbgcaaGreatQdp5
import Derived.Test.YtcebeajjpcbgcaaGreatQdp4
import Derived.Lib.MinMax
namespace Go.Proofs.YtcebeajjpcbgcaaGreat.lx
open mem (pfx digB digs digAt isAt bWhole bPart bPoint bMark pfxFirst pfxR posT enB prB)
open cu (Tk)
set_option linter.unusedVariables false
set_option linter.unusedSimpArgs false
/-- what stands behind a token makes no difference: l and l' agree up to T, and a line feed stands there in l' -/
structure Loc (l l' : List Int) (T : Nat) : Prop where
  tk : l'.take T = l.take T
  le : T ≤ l.length
  nl : cAt l' T = 10
section
variable {l l' : List Int} {T : Nat} (H : Loc l l' T)
include H
theorem Loc.lt : T < l'.length := cAt_lt H.nl (by decide)
theorem Loc.get {i : Nat} (hi : i < T) : l'[i]? = l[i]? := by
  have h1 : (l'.take T)[i]? = (l.take T)[i]? := by rw [H.tk]
  rwa [List.getElem?_take, List.getElem?_take, if_pos hi, if_pos hi] at h1
theorem Loc.getD {i : Nat} (hi : i < T) : l'.getD i 0 = l.getD i 0 := by
  rw [List.getD_eq_getElem?_getD, List.getD_eq_getElem?_getD, H.get hi]
theorem Loc.at_ {i : Nat} (hi : i < T) : cAt l' i = cAt l i := by
  have := H.lt
  have := H.le
  rw [cAt_in (by omega), cAt_in (by omega), H.getD hi]
end
end Go.Proofs.YtcebeajjpcbgcaaGreat.lx
namespace Go.Proofs.YtcebeajjpcbgcaaGreat.cu
open dt (Dt)
open mem (decF decZ putB scB Byt posT enB)
open lx (toks chs cln tksG tkG)
set_option linter.unusedVariables false
set_option linter.unusedSimpArgs false
/-- a source's beginning, a line feed, and anything behind -/
def behind (l : List Int) (T : Nat) (tl : List Int) : List Int := (l.take T).flatMap putB ++ 10 :: tl
theorem tks_fr (l : List Int) (cl : Bool) : ∀ (q i : Nat) (t : Tk), i ≤ l.length → (tksG l cl i)[q]? = some t → i ≤ t.fr ∧ (t.ln, t.co) = posT l t.fr
  | 0, i, t, hi, h => by
    have h0 : (tksG l cl i)[0]? = some (tkG l cl i) := by
      by_cases he : (tkG l cl i).k = 0 ∨ (tkG l cl i).k = 1
      · rw [lx.tksG_end he]; rfl
      · rw [lx.tksG_go hi he]; rfl
    rw [h0] at h
    obtain rfl := Option.some.inj h
    exact ⟨(lx.ign_le l false i).1, rfl⟩
  | q + 1, i, t, hi, h => by
    have hle := lx.tkG_le l cl i hi
    by_cases he : (tkG l cl i).k = 0 ∨ (tkG l cl i).k = 1
    · rw [lx.tksG_end he] at h; simp at h
    · rw [lx.tksG_go hi he] at h
      have := tks_fr l cl q _ t hle.2.1 (by simpa using h)
      have hit : i < (tkG l cl i).to := by rcases hle.2.2 with h | h | h; exact absurd (.inl h) he; exact absurd (.inr h) he; exact h
      exact ⟨by omega, this.2⟩
end Go.Proofs.YtcebeajjpcbgcaaGreat.cu
namespace Go.Proofs.YtcebeajjpcbgcaaGreat.cu
open dt (Dt Kp RowAt Ow Grow)
open mem (decF decZ putB scB Byt posT enB)
open lx (toks chs cln tksG tkG)
set_option linter.unusedVariables false
set_option linter.unusedSimpArgs false
/- a document that is not read has a fault -/
theorem bodyS_faults {L : LitR} {S : LstR} (hG : Goes L) {b : Nat} (hS : Faults S b) (k : Int) (nm on : ByteArray) (vs : List Dt) (t : Tk) : Faults (bodyS L S k nm on vs t) b := by
  intro c hc hl hn
  have h1 := dirs_stp hG hc
  have h3 := hS _ h1.ok (by rw [h1.ts]; have := h1.ix; omega)
  unfold bodyS at hn ⊢
  cases hq : (S (dirs L c).2).1 with
  | none => exact h3 hq
  | some l => rw [hq] at hn; cases hn
theorem operS_faults {f : Nat} {K L : LitR} {S : LstR} (hK : Goes K) (hG : Goes L) {b : Nat} (hS : Faults S b) (k : Int) (t : Tk) : Faults (operS (typF f) K L S k t) b := by
  intro c hc hl hn
  have h1 := opC_stp hc
  have h2 := h1.trans (varsS_stp (f := f) hK h1.ok)
  exact bodyS_faults hG hS _ _ _ _ _ _ h2.ok (by rw [h2.ts]; have := h2.ix; omega) hn
theorem fragS_faults {L : LitR} {S : LstR} (hG : Goes L) {b : Nat} (hS : Faults S b) (t : Tk) : Faults (fragS L S t) b := by
  intro c hc hl hn
  have h1 := fragC_stp hc
  have h2 := h1.trans (fragO_stp h1.ok)
  have h3 := h2.trans (name_stp h2.ok)
  exact bodyS_faults hG hS _ _ _ _ _ _ h3.ok (by rw [h3.ts]; have := h3.ix; omega) hn
theorem defS_faults {f : Nat} {K L : LitR} {S : LstR} (hK : Goes K) (hG : Goes L) {b : Nat} (hS : Faults S b) : Faults (defS (typF f) K L S) b := by
  intro c hc hl hn
  unfold defS at hn ⊢
  by_cases hp : c.isP bLc = true
  · rw [if_pos hp] at hn ⊢
    cases hq : (S c).1 with
    | none => exact hS c hc hl hq
    | some ss => rw [hq] at hn; cases hn
  · rw [if_neg hp] at hn ⊢
    by_cases hw : c.isW [bQuery, bMut, bSub, bFrag] = true
    · rw [if_pos hw] at hn ⊢
      have h1 := takeN hc (isW_N hw)
      have hl1 : c.take.ts.length ≤ b + c.take.ix := by rw [h1.ts]; have := h1.ix; omega
      split at hn
      · rename_i e; rw [if_pos e]; exact operS_faults hK hG hS _ _ _ h1.ok hl1 hn
      · rename_i e1
        rw [if_neg e1]
        split at hn
        · rename_i e; rw [if_pos e]; exact operS_faults hK hG hS _ _ _ h1.ok hl1 hn
        · rename_i e2
          rw [if_neg e2]
          split at hn
          · rename_i e; rw [if_pos e]; exact operS_faults hK hG hS _ _ _ h1.ok hl1 hn
          · rename_i e3; rw [if_neg e3]; exact fragS_faults hG hS _ _ h1.ok hl1 hn
    · rw [if_neg hw]
      exact stop_kd _ _ (by decide)
theorem defsF_faults {D : LitR} (hG : Goes D) {b : Nat} (hD : Faults D b) : ∀ (g : Nat) (l : List Dt) (c : Cu), c.Ok → c.ts.length ≤ b + c.ix → c.ts.length ≤ g + c.ix → (defsF D g l c).1 = none → (defsF D g l c).2.kd ≠ 0
  | 0, l, c, h, hb, hg, hn => by have := h.lt; omega
  | g + 1, l, c, h, hb, hg, hn => by
    simp only [defsF] at hn ⊢
    by_cases hc : l.length = 0 ∨ c.tok.k ≠ 0
    · rw [if_pos hc] at hn
      rw [if_pos hc]
      have hs := hG c h
      cases hq : (D c).1 with
      | none => exact hD c h hb hq
      | some d =>
        rw [hq] at hn
        have hi := hs.2 (by rw [hq]; rfl)
        exact defsF_faults hG hD g _ _ hs.1.ok (by rw [hs.1.ts]; omega) (by rw [hs.1.ts]; omega) hn
    · rw [if_neg hc] at hn
      rw [if_neg hc]
      show c.fin.kd ≠ 0
      unfold Cu.fin
      cases hf : c.finB with
      | true => rw [hf] at hn; cases hn
      | false => rw [if_neg (by decide)]; exact stop_kd _ _ (by decide)
theorem docS_faults (c : Cu) (h : c.Ok) (hn : (docS c).1 = none) : (docS c).2.kd ≠ 0 :=
  defsF_faults (defN_goes _) (defS_faults (litF_goes true _) (litF_goes false _) (selsF_faults (litF_goes false _) (litF_faults false _) _ (Nat.le_refl _))) _ _ c h (by omega) (by omega) hn
/-- a document's reading, from a source's bytes -/
def docG (z : List Int) (d : Int) : Option (List Dt) × Cu := docS (newG z d)
end Go.Proofs.YtcebeajjpcbgcaaGreat.cu
namespace Go.Proofs.YtcebeajjpcbgcaaGreat.cu
open dt (Dt Kp RowAt Ow Grow)
set_option linter.unusedVariables false
set_option linter.unusedSimpArgs false
theorem unm_faults {T : TypR} {b : Nat} (hF : Faults T b) : Faults (unm T) (b + 1) := by
  intro c hc hb hn
  unfold unm at hn ⊢
  by_cases hp : c.isP bLb = true
  · rw [if_pos hp] at hn ⊢
    by_cases hB : c.opB bLb = true
    · rw [if_pos hB] at hn ⊢
      have ho := opn_stp hc bLb
      have hx := opn_ix hB
      cases hq : (T (c.opn bLb)).1 with
      | none => exact hF _ ho.ok (by rw [ho.ts, hx]; omega) hq
      | some it =>
        rw [hq] at hn
        dsimp only at hn ⊢
        by_cases hr : (T (c.opn bLb)).2.isP bRb = true
        · rw [if_pos hr] at hn; cases hn
        · rw [if_neg hr]
          show ((T (c.opn bLb)).2.cls bRb).kd ≠ 0
          unfold Cu.cls
          rw [if_neg hr]
          exact stop_kd _ _ (by decide)
    · rw [if_neg hB]
      exact opn_kd (by simpa using hB)
  · rw [if_neg hp] at hn ⊢
    by_cases hN : c.isN = true
    · rw [if_pos hN] at hn; cases hn
    · rw [if_neg hN]
      exact name_kd (by simpa using hN)
theorem typF_faults : ∀ f, Faults (typF f) f
  | 0 => fun c hc hb hn => by have := hc.lt; omega
  | f + 1 => fun c hc hb hn => by
    have hu := unm_faults (typF_faults f) c hc hb
    change (typ (unm (typF f)) c).1 = none at hn
    show (typ (unm (typF f)) c).2.kd ≠ 0
    unfold typ at hn ⊢
    cases hq : (unm (typF f) c).1 with
    | none => exact hu hq
    | some r =>
      rw [hq] at hn
      dsimp only at hn
      split at hn <;> cases hn
section
variable {M b : Nat}
theorem unmI_at {T : TypR} {u : Cu} : unmI T u = (match (T u).1 with | none => (none, (T u).2) | some it => (cond ((T u).2.isP bRb) (some (it.1, it.2 ++ bRb)) none, (T u).2.cls bRb)) := by
  unfold unmI
  show (match (T u).1 with | none => ret none | some it => bnd (clsR bRb) fun cl => ret (cond cl (some (it.1, it.2 ++ bRb)) none)) (T u).2 = _
  cases (T u).1 <;> rfl
theorem cls_no {c : Cu} {p : ByteArray} (h : ¬ c.isP p = true) : (c.cls p).kd ≠ 0 := by
  unfold Cu.cls
  rw [if_neg h]
  exact stop_kd _ _ (by decide)
theorem unmO_3 {T : TypR} (hF : Faults T b) (h : Ok3 M T b) : Ok3 M (bnd (opnR bLb) fun o => cond o (unmI T) (ret none)) (b + 1) := by
  have eq : ∀ c : Cu, (bnd (opnR bLb) fun o => cond o (unmI T) (ret none)) c = cond (c.opB bLb) (unmI T) (ret none) (c.opn bLb) := fun c => rfl
  have sU : St (unmI T) := unmI_st h.st
  refine ⟨(opnR_st bLb).bnd fun o => ite_st sU (ret_st _), fun c hc => ?_, fun c hc hb hi h0 hk => ?_, fun c hc hb hi h0 hk hw => ?_⟩
  · rw [eq]
    have hB : c.opB bLb = false := by unfold Cu.opB; rw [isP_dead hc]; rfl
    rw [hB]
    show c.opn bLb = c
    unfold Cu.opn
    rw [isP_dead hc]
    exact stop_dead _ _ hc
  · rw [eq] at hk ⊢
    have ho := opn_stp hc bLb
    by_cases hB : c.opB bLb = true
    · rw [hB] at hk ⊢
      simp only [cond_true] at hk ⊢
      rw [unmI_at] at hk ⊢
      obtain ⟨h1, h2, h3⟩ := opn_yes hB
      have hI := opn_inv dl_lb hB hi
      have hkd : (c.opn bLb).kd = 0 := by rw [h3]; exact h0
      have hop : (c.opn bLb).op = c.op + 1 := by rw [h3]
      have hix := opn_ix hB
      have hb' : (c.opn bLb).ts.length ≤ b + (c.opn bLb).ix := by rw [ho.ts, hix]; omega
      cases hq : (T (c.opn bLb)).1 with
      | none => rw [hq] at hk; exact absurd hk (hF _ ho.ok hb' hq)
      | some it =>
        rw [hq] at hk
        dsimp only at hk ⊢
        by_cases hr : (T (c.opn bLb)).2.isP bRb = true
        · rw [cls_yes hr] at hk ⊢
          obtain ⟨o1, i1⟩ := h.bal _ ho.ok hb' hI hkd hk
          refine ⟨by show (T (c.opn bLb)).2.op - 1 = c.op; omega, ?_⟩
          show (((T (c.opn bLb)).2.op - 1 : Nat) : Int) = dpt (T (c.opn bLb)).2.ts ((T (c.opn bLb)).2.ix + 1)
          rw [dpt_tok, dlt_isP hr, dl_rb]
          have hi' : ((T (c.opn bLb)).2.op : Int) = dpt (T (c.opn bLb)).2.ts (T (c.opn bLb)).2.ix := i1
          omega
        · exact absurd hk (cls_no hr)
    · have hB' : c.opB bLb = false := by simpa using hB
      rw [hB'] at hk
      exact absurd hk (opn_kd hB')
  · rw [eq] at hk
    rw [eq, eq]
    have ho := opn_stp hc bLb
    by_cases hB : c.opB bLb = true
    · rw [hB] at hk ⊢
      simp only [cond_true] at hk ⊢
      have sF := sU _ ho.ok
      rw [unmI_at] at hk
      obtain ⟨h1, h2, h3⟩ := opn_yes hB
      have hI := opn_inv dl_lb hB hi
      have hkd : (c.opn bLb).kd = 0 := by rw [h3]; exact h0
      have hop : (c.opn bLb).op = c.op + 1 := by rw [h3]
      have hix := opn_ix hB
      have hb' : (c.opn bLb).ts.length ≤ b + (c.opn bLb).ix := by rw [ho.ts, hix]; omega
      rcases opn_dep dl_lb hB h0 hi hw with ⟨l1, b1, e1⟩ | ⟨b1, d1⟩
      · rw [b1, e1]
        simp only [cond_true]
        rw [unmI_at, unmI_at] at *
        cases hq : (T (c.opn bLb)).1 with
        | none => rw [hq] at hk; exact absurd hk (hF _ ho.ok hb' hq)
        | some it =>
          rw [hq] at hk sF
          dsimp only at hk sF ⊢
          by_cases hr : (T (c.opn bLb)).2.isP bRb = true
          · have hk2 : (T (c.opn bLb)).2.kd = 0 := by rw [cls_yes hr] at hk; exact hk
            have sT := h.st _ ho.ok
            rcases h.dep _ ho.ok hb' hI hkd hk2 (by rw [ho.ts, hix]; exact l1) with ⟨l2, e2⟩ | d2
            · rw [e2, hq]
              dsimp only
              have hr' : ((T (c.opn bLb)).2.at M).isP bRb = true := hr
              rw [cls_yes hr, cls_yes hr', hr, hr']
              left
              rw [ho.ts] at l2
              refine ⟨l2.succ ?_, rfl⟩
              have : dpt c.ts ((T (c.opn bLb)).2.ix + 1) = dpt c.ts (T (c.opn bLb)).2.ix + -1 := by
                have e := dpt_tok (T (c.opn bLb)).2
                rw [dlt_isP hr, dl_rb, sT.ts, ho.ts] at e
                exact e
              rw [this]
              have := l2.top
              omega
            · right
              have hdd := d2.dead
              have := sF.ix
              have s3 := cls_stp sT.ok bRb
              cases hx : (T ((c.opn bLb).at M)).1 with
              | none => exact (d2.to s3.ix).of ho
              | some it' =>
                dsimp only
                have : (T ((c.opn bLb).at M)).2.cls bRb = (T ((c.opn bLb).at M)).2 := by unfold Cu.cls; rw [isP_dead hdd]; exact stop_dead _ _ hdd
                rw [this]
                exact (d2.to s3.ix).of ho
          · exact absurd hk (cls_no hr)
      · rw [b1]
        simp only [cond_false]
        exact .inr (d1 _ (by have := sF.ix; omega))
    · have hB' : c.opB bLb = false := by simpa using hB
      rw [hB'] at hk
      exact absurd hk (opn_kd hB')
theorem unm_3 {T : TypR} (hF : Faults T b) (h : Ok3 M T b) : Ok3 M (unm T) (b + 1) := by
  rw [unm_eq]
  exact (isPR_3 _).bnd fun q => cond_3 (unmO_3 hF h) (nR_3.bnd fun n => ret_3 _)
theorem typF_3 : ∀ f, Ok3 M (typF f) f
  | 0 => ⟨typF_st 0, fun c hc => rfl, fun c hc hb => by have := hc.lt; omega, fun c hc hb => by have := hc.lt; omega⟩
  | f + 1 => by
    show Ok3 M (typ (unm (typF f))) (f + 1)
    rw [typ_eq]
    exact (unm_3 (typF_faults f) (typF_3 f)).bnd fun r => by
      cases r with
      | none => exact ret_3 _
      | some r => exact (punctR_3 _ dl_bang).bnd fun q => ret_3 _
theorem varQ_3 {T : TypR} {L : LitR} (hT : Ok3 M T b) (hG : Goes L) (hF : Faults L b) (h : Ok3 M L b) : Ok3 M (varQ T L) b := by
  rw [varQ_eq]
  exact tokR_3.bnd fun _ => (wantR_3 _ dl_dol).bnd fun _ => nmR_3.bnd fun _ => (wantR_3 _ dl_col).bnd fun _ => hT.bnd fun _ => (punctR_3 _ dl_eq).bnd fun q => (cond_3 h (ret_3 _)).bnd fun _ => (dirs_3 hG hF h).bnd fun _ => ret_3 _
theorem varQ_faults {f : Nat} {L : LitR} (hG : Goes L) (hF : Faults L b) : Faults (varQ (typF f) L) b := by
  intro c hc hb hn
  have h1 := varC3_stp hc
  have h2 := (typF_goes f _ h1.ok).1
  have h3 := varU_stp hG h2.ok
  have h13 := (h1.trans h2).trans h3
  have hd := dirs_faults hG hF _ h3.ok (by rw [h13.ts]; have := h13.ix; omega)
  simp only [varQ] at hn ⊢
  cases hq : (dirs L (varU L (typF f (varC3 c)).2)).1 with
  | none => exact hd hq
  | some ds => rw [hq] at hn; cases hn
theorem bodyS_3 {L : LitR} {S : LstR} (hG : Goes L) (hF : Faults L b) (h : Ok3 M L b) (hS : Ok3 M S b) (k : Int) (nm on : ByteArray) (vs : List Dt) (t : Tk) : Ok3 M (bodyS L S k nm on vs t) b := by
  rw [bodyS_eq]
  exact (dirs_3 hG hF h).bnd fun _ => hS.bnd fun _ => ret_3 _
theorem varsS_3 {f : Nat} {K : LitR} (hT : Ok3 M (typF f) b) (hG : Goes K) (hF : Faults K b) (h : Ok3 M K b) : Ok3 M (varsS (typF f) K) b := by
  rw [varsS_eq]
  exact (isPR_3 _).bnd fun q => cond_3 ((brk_3 (varQ_goes hG) (varQ_faults hG hF) (varQ_3 hT hG hF h) dl_lp dl_rp 1).mono (Nat.le_succ _)) (ret_3 _)
theorem operS_3 {f : Nat} {K L : LitR} {S : LstR} (hT : Ok3 M (typF f) b) (kG : Goes K) (kF : Faults K b) (hK : Ok3 M K b) (hG : Goes L) (hF : Faults L b) (h : Ok3 M L b) (hS : Ok3 M S b) (k : Int) (t : Tk) : Ok3 M (operS (typF f) K L S k t) b := by
  rw [operS_eq]
  exact tokR_3.bnd fun u => (cond_3 nmR_3 (ret_3 _)).bnd fun _ => (varsS_3 hT kG kF hK).bnd fun _ => bodyS_3 hG hF h hS _ _ _ _ _
theorem fragS_3 {L : LitR} {S : LstR} (hG : Goes L) (hF : Faults L b) (h : Ok3 M L b) (hS : Ok3 M S b) (t : Tk) : Ok3 M (fragS L S t) b := by
  rw [fragS_eq]
  exact (butR_3 _).bnd fun _ => (wwR_3 _).bnd fun _ => nmR_3.bnd fun _ => bodyS_3 hG hF h hS _ _ _ _ _
theorem defS_3 {f : Nat} {K L : LitR} {S : LstR} (hT : Ok3 M (typF f) b) (kG : Goes K) (kF : Faults K b) (hK : Ok3 M K b) (hG : Goes L) (hF : Faults L b) (h : Ok3 M L b) (hS : Ok3 M S b) : Ok3 M (defS (typF f) K L S) b := by
  rw [defS_eq]
  exact tokR_3.bnd fun t => (isPR_3 _).bnd fun q => cond_3 (hS.bnd fun _ => ret_3 _) (wordsR_3.bnd fun u => cond_3 (by cases kindS u.2; exact fragS_3 hG hF h hS t; exact operS_3 hT kG kF hK hG hF h hS _ t) (ret_3 _))
theorem defN_3 (N : Nat) : Ok3 M (defN N) N :=
  defS_3 (typF_3 N) (litF_goes true N) (litF_faults true N) (litF_3 true N) (litF_goes false N) (litF_faults false N) (litF_3 false N) (selsF_3 (litF_goes false N) (litF_faults false N) (litF_3 false N) N (Nat.le_refl _))
theorem defsF_sti {D : LitR} (hD : Sti D) : ∀ (g : Nat) (l : List Dt) (c : Cu), c.kd ≠ 0 → (defsF D g l c).2 = c
  | 0, l, c, h => rfl
  | g + 1, l, c, h => by
    simp only [defsF]
    split
    · have h1 := hD c h
      cases hq : (D c).1 with
      | none => exact h1
      | some d => dsimp only; rw [h1]; exact defsF_sti hD g _ c h
    · show c.fin = c
      unfold Cu.fin
      split
      · rfl
      · exact stop_dead _ _ h
theorem defsF_dep {D : LitR} (hG : Goes D) (hF : Faults D b) (o : Ok3 M D b) : ∀ (g : Nat) (l : List Dt) (c : Cu), c.Ok → c.ts.length ≤ b + c.ix → c.ts.length ≤ g + c.ix → Inv c → c.kd = 0 → (defsF D g l c).2.kd = 0 → Low M c.ts c.ix → (Low M c.ts (defsF D g l c).2.ix ∧ defsF D g l (c.at M) = ((defsF D g l c).1, (defsF D g l c).2.at M)) ∨ Dd M c (defsF D g l c).2.ix (defsF D g l (c.at M)).2
  | 0, l, c, hc, hb, hg, hi, h0, hk, hl => by have := hc.lt; omega
  | g + 1, l, c, hc, hb, hg, hi, h0, hk, hl => by
    have eT : (c.at M).tok = c.tok := rfl
    simp only [defsF] at hk ⊢
    rw [eT]
    by_cases hq : l.length = 0 ∨ c.tok.k ≠ 0
    · rw [if_pos hq] at hk
      rw [if_pos hq, if_pos hq]
      have hgo := hG c hc
      cases he : (D c).1 with
      | none => rw [he] at hk; exact absurd hk (hF c hc hb he)
      | some d =>
        rw [he] at hk
        have k0 : (D c).2.kd = 0 := Classical.byContradiction fun x => by
          dsimp only at hk
          rw [defsF_sti o.sti g _ _ x] at hk
          exact x hk
        obtain ⟨o1, i1⟩ := o.bal c hc hb hi h0 k0
        have i2 := hgo.2 (by rw [he]; rfl)
        have s2 := defsF_stp hG g (l ++ [d]) _ hgo.1.ok
        rcases o.dep c hc hb hi h0 k0 hl with ⟨l1, e1⟩ | d1
        · rw [e1, he]
          have ih := defsF_dep hG hF o g (l ++ [d]) (D c).2 hgo.1.ok (by rw [hgo.1.ts]; omega) (by rw [hgo.1.ts]; omega) i1 k0 hk (by rw [hgo.1.ts]; exact l1)
          rcases ih with ⟨l2, e2⟩ | d2
          · rw [hgo.1.ts] at l2
            exact .inl ⟨l2, e2⟩
          · exact .inr (d2.of hgo.1)
        · right
          dsimp only
          have hdd := d1.dead
          cases hx : (D (c.at M)).1 with
          | none => exact d1.to s2.ix
          | some d' => dsimp only; rw [defsF_sti o.sti g _ _ hdd]; exact d1.to s2.ix
    · rw [if_neg hq] at hk
      rw [if_neg hq, if_neg hq]
      left
      have hf : c.finB = true := by
        cases hf : c.finB with
        | true => rfl
        | false =>
          have : c.fin.kd = 0 := hk
          unfold Cu.fin at this
          rw [hf] at this
          exact absurd this (stop_kd _ _ (by decide))
      have hf' : (c.at M).finB = true := hf
      have e1 : c.fin = c := if_pos hf
      have e2 : (c.at M).fin = c.at M := if_pos hf'
      rw [e1, e2, hf, hf']
      exact ⟨hl, rfl⟩
theorem defN_faults (N : Nat) : Faults (defN N) N := by
  intro c hc hb hn
  exact defS_faults (litF_goes true _) (litF_goes false _) (selsF_faults (litF_goes false _) (litF_faults false _) _ (Nat.le_refl _)) c hc hb hn
theorem docS_dep (c : Cu) (hc : c.Ok) (hi : Inv c) (h0 : c.kd = 0) (hk : (docS c).2.kd = 0) (hl : Low M c.ts c.ix) : (Low M c.ts (docS c).2.ix ∧ docS (c.at M) = ((docS c).1, (docS c).2.at M)) ∨ Dd M c (docS c).2.ix (docS (c.at M)).2 :=
  defsF_dep (defN_goes _) (defN_faults _) (defN_3 _) _ [] c hc (by omega) (by omega) hi h0 hk hl
end
end Go.Proofs.YtcebeajjpcbgcaaGreat.cu
namespace Go.Proofs.YtcebeajjpcbgcaaGreat.cu
open dt (Dt Kp RowAt Ow Grow)
open mem (posT Byt)
open lx (toks chs cln tksG tkG)
set_option linter.unusedVariables false
set_option linter.unusedSimpArgs false
/- at depth nought nothing is read -/
theorem brk_mo0 (E : LitR) (l r : ByteArray) (n : Nat) {c : Cu} (h : c.mo = 0) : (brk E l r n c).1 = none := by
  unfold brk Cu.opB
  rw [h]
  simp
theorem sels_mo0 (L : LitR) (g : Nat) {c : Cu} (h : c.mo = 0) : (selsF L g c).1 = none := by
  cases g with
  | zero => rfl
  | succ g => exact brk_mo0 _ _ _ _ h
theorem body_mo0 {L : LitR} (hG : Goes L) (g : Nat) (k : Int) (nm on : ByteArray) (vs : List Dt) (t : Tk) {c : Cu} (hc : c.Ok) (h : c.mo = 0) : (bodyS L (selsF L g) k nm on vs t c).1 = none := by
  have h1 := sels_mo0 L g (c := (dirs L c).2) ((dirs_stp hG hc).mo.trans h)
  unfold bodyS
  rw [h1]
theorem def_mo0 {f g : Nat} {K L : LitR} (hK : Goes K) (hG : Goes L) {c : Cu} (hc : c.Ok) (h : c.mo = 0) : (defS (typF f) K L (selsF L g) c).1 = none := by
  unfold defS
  by_cases hp : c.isP bLc = true
  · rw [if_pos hp, sels_mo0 L g h]
  · rw [if_neg hp]
    by_cases hw : c.isW [bQuery, bMut, bSub, bFrag] = true
    · rw [if_pos hw]
      have h1 := takeN hc (isW_N hw)
      have ho : ∀ k, (operS (typF f) K L (selsF L g) k c.tok c.take).1 = none := fun k => by
        have h2 := opC_stp h1.ok
        have h3 := varsS_stp (f := f) hK h2.ok
        have h4 := (h1.trans h2).trans h3
        exact body_mo0 hG g _ _ _ _ _ h4.ok (h4.mo.trans h)
      have hf : (fragS L (selsF L g) c.tok c.take).1 = none := by
        have h2 := fragC_stp h1.ok
        have h3 := fragO_stp h2.ok
        have h4 := name_stp h3.ok
        have h5 := ((h1.trans h2).trans h3).trans h4
        exact body_mo0 hG g _ _ _ _ _ h5.ok (h5.mo.trans h)
      split
      · exact ho 1
      split
      · exact ho 2
      split
      · exact ho 3
      · exact hf
    · rw [if_neg hw]
theorem doc_mo0 {c : Cu} (hc : c.Ok) (h : c.mo = 0) : (docS c).1 = none := by
  unfold docS
  have hl := hc.lt
  obtain ⟨g, hg⟩ : ∃ g, c.ts.length = g + 1 := ⟨c.ts.length - 1, by omega⟩
  have hD : (defN c.ts.length c).1 = none := def_mo0 (litF_goes true _) (litF_goes false _) hc h
  obtain ⟨D, hD'⟩ : ∃ D, D = defN c.ts.length := ⟨_, rfl⟩
  rw [← hD'] at hD ⊢
  rw [hg]
  simp only [defsF]
  rw [if_pos (.inl rfl), hD]
theorem defsF_live3 (D : LitR) : ∀ (g : Nat) (l : List Dt) (c : Cu), (defsF D g l c).1.isSome = true → (defsF D g l c).2.kd = 0 ∧ (defsF D g l c).2.tok.k = 0
  | 0, l, c, h => by cases h
  | g + 1, l, c, h => by
    simp only [defsF] at h ⊢
    split at h
    · rename_i hc
      rw [if_pos hc]
      cases hq : (D c).1 with
      | none => rw [hq] at h; cases h
      | some d => rw [hq] at h; exact defsF_live3 D g _ _ h
    · rename_i hc
      rw [if_neg hc]
      show c.fin.kd = 0 ∧ c.fin.tok.k = 0
      cases hf : c.finB with
      | false => rw [hf] at h; cases h
      | true => unfold Cu.fin; rw [if_pos hf]; exact of_decide_eq_true hf
theorem tks_last3 (l : List Int) (cl : Bool) : ∀ (m i : Nat) (t : Tk), i ≤ l.length → (tksG l cl i)[m]? = some t → t.k = 0 ∨ t.k = 1 → (tksG l cl i).length = m + 1
  | 0, i, t, hi, h, hk => by
    by_cases he : (tkG l cl i).k = 0 ∨ (tkG l cl i).k = 1
    · rw [lx.tksG_end he]; rfl
    · rw [lx.tksG_go hi he] at h; simp at h; subst h; exact absurd hk he
  | m + 1, i, t, hi, h, hk => by
    have hle := lx.tkG_le l cl i hi
    by_cases he : (tkG l cl i).k = 0 ∨ (tkG l cl i).k = 1
    · rw [lx.tksG_end he] at h; simp at h
    · rw [lx.tksG_go hi he] at h ⊢
      have := tks_last3 l cl m _ t hle.2.1 (by simpa using h) hk
      simp; omega
theorem tok_ln (z : List Int) {q : Nat} {t : Tk} (h : (toks z)[q]? = some t) : 1 ≤ t.ln := by
  have h1 := (tks_fr (chs z) (cln z) q 0 t (Nat.zero_le _) h).2
  have h2 := (mem.posT_bd (chs z) t.fr).1
  rw [← h1] at h2
  exact h2
/- what the statement counts -/
def dpS (L : Int) (s : Int × Int × Int × Int) (t : Tk) : Int × Int × Int × Int :=
  if t.k = 2 then
    (if t.tx = bLp ∨ t.tx = bLb ∨ t.tx = bLc then (s.1 + 1, max s.2.1 (s.1 + 1), if s.1 + 1 = L + 1 ∧ s.2.2.1 = 0 ∧ s.2.2.2 = 0 then (t.ln, t.co) else s.2.2)
     else if t.tx = bRp ∨ t.tx = bRb ∨ t.tx = bRc then (s.1 - 1, s.2) else s)
  else s
def dps (L : Int) (ts : List Tk) : Nat → Int × Int × Int × Int
  | 0 => (0, 0, 0, 0)
  | i + 1 => dpS L (dps L ts i) (ts.getD i Tk.zero)
theorem dps_fst (L : Int) (ts : List Tk) : ∀ i, (dps L ts i).1 = dpt ts i
  | 0 => rfl
  | i + 1 => by
    have ih := dps_fst L ts i
    simp only [dps, dpt, dpS, dlt]
    generalize ts.getD i Tk.zero = t
    split
    · split
      · show (dps L ts i).1 + 1 = _
        omega
      · split
        · show (dps L ts i).1 - 1 = _
          omega
        · omega
    · omega
theorem dps_bd (L : Int) (ts : List Tk) : ∀ i : Nat, -(i : Int) ≤ (dps L ts i).1 ∧ (dps L ts i).1 ≤ i ∧ 0 ≤ (dps L ts i).2.1 ∧ (dps L ts i).2.1 ≤ i
  | 0 => by simp [dps]
  | i + 1 => by
    have ih := dps_bd L ts i
    simp only [dps, dpS]
    generalize ts.getD i Tk.zero = t
    split
    · split
      · show -((i + 1 : Nat) : Int) ≤ (dps L ts i).1 + 1 ∧ (dps L ts i).1 + 1 ≤ ((i + 1 : Nat) : Int) ∧ 0 ≤ max (dps L ts i).2.1 ((dps L ts i).1 + 1) ∧ max (dps L ts i).2.1 ((dps L ts i).1 + 1) ≤ ((i + 1 : Nat) : Int)
        omega
      · split
        · show -((i + 1 : Nat) : Int) ≤ (dps L ts i).1 - 1 ∧ (dps L ts i).1 - 1 ≤ ((i + 1 : Nat) : Int) ∧ 0 ≤ (dps L ts i).2.1 ∧ (dps L ts i).2.1 ≤ ((i + 1 : Nat) : Int)
          omega
        · omega
    · omega
/-- the greatest is the greatest -/
theorem dps_most (L : Int) (ts : List Tk) : ∀ i, (∀ j, j ≤ i → dpt ts j ≤ (dps L ts i).2.1) ∧ ∃ j, j ≤ i ∧ (dps L ts i).2.1 = dpt ts j
  | 0 => ⟨fun j hj => by obtain rfl : j = 0 := by omega
                         exact Int.le_refl _, 0, Nat.le_refl _, rfl⟩
  | i + 1 => by
    obtain ⟨h1, j0, hj0, h2⟩ := dps_most L ts i
    have e1 := dps_fst L ts i
    have e2 := dps_fst L ts (i + 1)
    have hi := h1 i (Nat.le_refl _)
    have key : (dps L ts (i + 1)).2.1 = max (dps L ts i).2.1 (dpt ts (i + 1)) := by
      rw [← e2]
      simp only [dps, dpS]
      generalize ts.getD i Tk.zero = t
      split
      · split
        · rfl
        · split
          · show (dps L ts i).2.1 = max (dps L ts i).2.1 ((dps L ts i).1 - 1)
            omega
          · omega
      · omega
    rw [key]
    refine ⟨fun j hj => ?_, ?_⟩
    · rcases Nat.lt_or_ge i j with g | g
      · obtain rfl : j = i + 1 := by omega
        omega
      · have := h1 j g; omega
    · by_cases hm : dpt ts (i + 1) ≤ (dps L ts i).2.1
      · exact ⟨j0, by omega, by omega⟩
      · exact ⟨i + 1, Nat.le_refl _, by omega⟩
theorem dlt_le (t : Tk) : dlt t ≤ 1 ∧ -1 ≤ dlt t := by
  unfold dlt
  split
  · split
    · omega
    · split <;> omega
  · omega
theorem dps_none (M : Nat) (ts : List Tk) : ∀ i, Low M ts i → (dps M ts i).2.2 = (0, 0)
  | 0, _ => rfl
  | i + 1, h => by
    have ih := dps_none M ts i (fun j hj => h j (by omega))
    have e1 := dps_fst M ts (i + 1)
    have h1 := h i (Nat.lt_succ_self _)
    rw [← e1] at h1
    simp only [dps, dpS] at h1 ⊢
    generalize ts.getD i Tk.zero = t at h1 ⊢
    split at h1
    · rename_i hk
      rw [if_pos hk]
      split at h1
      · rename_i ho
        rw [if_pos ho]
        have h1' : (dps M ts i).1 + 1 ≤ (M : Int) := h1
        show (if (dps M ts i).1 + 1 = (M : Int) + 1 ∧ _ then _ else _) = _
        rw [if_neg (fun x => by omega)]
        exact ih
      · rename_i ho
        rw [if_neg ho]
        split <;> exact ih
    · rename_i hk
      rw [if_neg hk]
      exact ih
theorem dps_some (M : Nat) (ts : List Tk) (j : Nat) (hl : Low M ts j) (hj : (M : Int) < dpt ts (j + 1)) (hln : 1 ≤ (ts.getD j Tk.zero).ln) : ∀ i, j < i → (dps M ts i).2.2 = ((ts.getD j Tk.zero).ln, (ts.getD j Tk.zero).co)
  | 0, h => by omega
  | i + 1, h => by
    rcases Nat.lt_or_ge j i with g | g
    · have ih := dps_some M ts j hl hj hln i g
      simp only [dps, dpS]
      generalize ts.getD i Tk.zero = t
      split
      · split
        · show (if (dps M ts i).1 + 1 = (M : Int) + 1 ∧ (dps M ts i).2.2.1 = 0 ∧ (dps M ts i).2.2.2 = 0 then (t.ln, t.co) else (dps M ts i).2.2) = _
          rw [if_neg (fun x => by rw [ih] at x; have := x.2.1; dsimp only at this; omega)]
          exact ih
        · split <;> exact ih
      · exact ih
    · obtain rfl : i = j := by omega
      have ih := dps_none M ts i hl
      have e0 := dps_fst M ts i
      have ht := hl.top
      have hd : dpt ts (i + 1) = dpt ts i + dlt (ts.getD i Tk.zero) := rfl
      rw [hd] at hj
      simp only [dps, dpS]
      generalize ts.getD i Tk.zero = t at hj hln ⊢
      have hle := dlt_le t
      have hdl : dlt t = 1 := by omega
      unfold dlt at hdl
      split at hdl
      · rename_i hk
        rw [if_pos hk]
        split at hdl
        · rename_i ho
          rw [if_pos ho]
          show (if (dps M ts i).1 + 1 = (M : Int) + 1 ∧ (dps M ts i).2.2.1 = 0 ∧ (dps M ts i).2.2.2 = 0 then (t.ln, t.co) else (dps M ts i).2.2) = _
          rw [if_pos ⟨by omega, by rw [ih], by rw [ih]⟩]
        · split at hdl <;> omega
      · omega
/-- a document at a lower depth -/
theorem doc_depth (z : List Int) (d : Int) (l : List Dt) (hd : (docG z 1099511627776).1 = some l) :
    ((dps (mostS d) (toks z) (toks z).length).2.1 ≤ mostS d ∧ 0 < (dps (mostS d) (toks z) (toks z).length).2.1 ∧ (docG z d).1 = some l) ∨
    ((mostS d : Int) < (dps (mostS d) (toks z) (toks z).length).2.1 ∧ (docG z d).1 = none ∧ (docG z d).2.kd = 71 ∧ (dps (mostS d) (toks z) (toks z).length).2.2 = ((docG z d).2.tok.ln, (docG z d).2.tok.co)) := by
  have hok := newG_ok' z 1099511627776
  obtain ⟨c, hc⟩ : ∃ c, c = newG z 1099511627776 := ⟨_, rfl⟩
  have hts : c.ts = toks z := by rw [hc]; rfl
  have hix : c.ix = 0 := by rw [hc]; rfl
  have hkd : c.kd = 0 := by rw [hc]; rfl
  have hinv : Inv c := by rw [hc]; rfl
  have hlow : ∀ M, Low M c.ts c.ix := fun M j hj => by omega
  have hat : ∀ d, newG z d = c.at (mostS d) := fun d => by rw [hc]; rfl
  unfold docG at hd ⊢
  rw [← hc] at hd hok
  rw [hat]
  obtain ⟨k0, kt⟩ := defsF_live3 _ _ _ _ (show (docS c).1.isSome = true by rw [hd]; rfl)
  have hst : Stp c (docS c).2 := defsF_stp (defN_goes _) _ _ _ hok
  have hlast : (toks z).length = (docS c).2.ix + 1 := by
    have hg := (docS c).2.get hst.ok.lt
    rw [hst.ts, hts] at hg
    exact tks_last3 (chs z) (cln z) _ 0 _ (Nat.zero_le _) hg (.inl kt)
  have hdlt : dpt (toks z) ((docS c).2.ix + 1) = dpt (toks z) (docS c).2.ix := by
    have e := dpt_tok (docS c).2
    rw [hst.ts, hts, dlt_k (by show (docS c).2.tok.k ≠ 2; rw [show (docS c).2.tok.k = 0 from kt]; decide)] at e
    omega
  have hall : ∀ M, Low M (toks z) (docS c).2.ix → Low M (toks z) (toks z).length := fun M h => by
    rw [hlast]
    exact h.succ (by rw [hdlt]; exact h.top)
  obtain ⟨hm1, jm, hjm, hm2⟩ := dps_most (mostS d) (toks z) (toks z).length
  rcases docS_dep (M := mostS d) c hok hinv hkd k0 (hlow _) with ⟨l1, e1⟩ | ⟨j, o, h1, h2, h3, h4, h5⟩
  · left
    rw [hts] at l1
    have hL := hall _ l1
    refine ⟨?_, ?_, by rw [e1]; exact hd⟩
    · rw [hm2]
      cases jm with
      | zero => exact Int.natCast_nonneg _
      | succ j => exact hL j (by omega)
    · rcases docS_dep (M := 0) c hok hinv hkd k0 (hlow _) with ⟨l2, e2⟩ | ⟨j, o, h1, h2, h3, h4, h5⟩
      · exfalso
        have hz : (docS (c.at 0)).1 = none := doc_mo0 (by rw [hc]; exact newG_ok' z 0) rfl
        rw [e2, hd] at hz
        cases hz
      · rw [hts] at h4
        have := hm1 (j + 1) (by omega)
        omega
  · right
    rw [hts] at h3 h4 h5
    have := hm1 (j + 1) (by omega)
    have hjl : j < (toks z).length := by omega
    have hg : (toks z)[j]? = some ((toks z).getD j Tk.zero) := by rw [List.getD_eq_getElem?_getD, List.getElem?_eq_getElem hjl]; rfl
    refine ⟨by omega, ?_, by rw [h5], ?_⟩
    · cases hq : (docS (c.at (mostS d))).1 with
      | none => rfl
      | some l' =>
        exfalso
        have := (defsF_live3 _ _ _ _ (show (docS (c.at (mostS d))).1.isSome = true by rw [hq]; rfl)).1
        have h6 : (docS (c.at (mostS d))).2.kd = 0 := this
        rw [h5] at h6
        exact absurd (show (71 : Int) = 0 from h6) (by decide)
    · rw [dps_some (mostS d) (toks z) j h3 h4 (tok_ln z hg) _ hjl, h5]
      rfl
end Go.Proofs.YtcebeajjpcbgcaaGreat.cu
namespace Go.Proofs.YtcebeajjpcbgcaaGreat.cu
open Go.ChangeShapes Go.WideShapes Go.ChangeAt Go.RowKit
set_option linter.unusedVariables false
theorem two_alloc (w : World) (o o' : Obj) : Below w.heap.size w ((w.alloc o).alloc o') := ((Below.refl _ _).alloc (Nat.le_refl _) o).alloc (by simp) o'
theorem two_at (w : World) (cs ds : Array Value) (t u : TypeId) : ((w.alloc (.cells cs t)).alloc (.cells ds u)).heap[w.heap.size]? = some (.cells cs t (0, 0)) ∧ ((w.alloc (.cells cs t)).alloc (.cells ds u)).heap[w.heap.size + 1]? = some (.cells ds u (0, 0)) := by
  refine ⟨(Below.heap_alloc _ _ w.heap.size (by simp)).trans (heap_alloc_new w _), ?_⟩
  have := heap_alloc_new (w.alloc (.cells cs t)) (.cells ds u)
  simpa using this
end Go.Proofs.YtcebeajjpcbgcaaGreat.cu
namespace Go.Proofs.YtcebeajjpcbgcaaGreat.cu
open Go.ChangeShapes Go.WideShapes Go.ChangeAt Go.RowKit
open ints (hide unhide)
open dt (Dt Kp RowAt Ow Grow OwIn)
open mem (Row)
set_option linter.unusedVariables false
set_option linter.unusedSimpArgs false
/-- a literal's cells -/
theorem lit_cells {w : World} {k : Int} {tx : ByteArray} {bl : Bool} {its fls : List Dt} {ln co : Int} {cs : List Value} {F : List Nat} (h : Ow w (litD k tx bl (Dt.of its) (Dt.of fls) ln co) cs F) :
    ∃ ai ni ci af nf cf, cs = [.int .i64 k, .string tx, .bool bl, .slice ai ni ci, .slice af nf cf, .int .i64 ln, .int .i64 co] ∧ ni = its.length ∧ nf = fls.length ∧ ni ≤ ci ∧ nf ≤ cf ∧ ci ≤ maxLen ∧ cf ≤ maxLen ∧
      (∀ i e, its[i]? = some e → ∃ p ds G, ai = some ⟨p, 0, none⟩ ∧ p ∈ F ∧ RowAt w p (i * 7) ds ∧ ds.length = 7 ∧ Ow w e ds G ∧ ∀ b ∈ G, b ∈ F) ∧
      (∀ i e, fls[i]? = some e → ∃ p ds G, af = some ⟨p, 0, none⟩ ∧ p ∈ F ∧ RowAt w p (i * 10) ds ∧ ds.length = 10 ∧ Ow w e ds G ∧ ∀ b ∈ G, b ∈ F) := by
  unfold litD at h
  unfold Ow at h
  obtain ⟨d1, rfl, _, h⟩ := h
  unfold Ow at h
  obtain ⟨d2, rfl, _, h⟩ := h
  unfold Ow at h
  obtain ⟨d3, rfl, _, h⟩ := h
  unfold Ow at h
  obtain ⟨ai, ni, ci, d4, F1, F2, rfl, i1, i2, i3, i4, h, rfl⟩ := h
  unfold Ow at h
  obtain ⟨af, nf, cf, d5, F3, F4, rfl, j1, j2, j3, j4, h, rfl⟩ := h
  unfold Ow at h
  obtain ⟨d6, rfl, _, h⟩ := h
  unfold Ow at h
  obtain ⟨d7, rfl, _, h⟩ := h
  unfold Ow at h
  obtain ⟨rfl, rfl⟩ := h
  have key : ∀ (l : List Dt) (k : Nat) (a : Option Addr) (n : Nat) (G0 : List Nat), ((a = none ∧ Dt.of l = .nil ∧ n = 0 ∧ G0 = []) ∨ ∃ p G, a = some ⟨p, 0, none⟩ ∧ G0 = p :: G ∧ OwIn w (Dt.of l) k p 0 n G) → n = l.length ∧ ∀ i e, l[i]? = some e → ∃ p ds G, a = some ⟨p, 0, none⟩ ∧ p ∈ G0 ∧ RowAt w p (i * k) ds ∧ ds.length = k ∧ Ow w e ds G ∧ ∀ b ∈ G, b ∈ G0 := by
    intro l k a n G0 h
    rcases h with ⟨_, h2, h3, _⟩ | ⟨p, G, rfl, rfl, h⟩
    · cases l with
      | nil => exact ⟨h3, fun i e he => by simp at he⟩
      | cons d l => unfold Dt.of at h2; cases h2
    · obtain ⟨h1, h2⟩ := OwIn.get l k p 0 n G h
      refine ⟨h1.symm, fun i e he => ?_⟩
      obtain ⟨ds, Gi, g1, g2, g3, g4⟩ := h2 i e he
      exact ⟨p, ds, Gi, rfl, by simp, by simpa using g1, g2, g3, fun b hb => by simp [g4 b hb]⟩
  obtain ⟨e1, e2⟩ := key its 7 ai ni F1 i4
  obtain ⟨e3, e4⟩ := key fls 10 af nf F3 j4
  refine ⟨ai, ni, ci, af, nf, cf, rfl, e1, e3, i1, j1, i2, j2, fun i e he => ?_, fun i e he => ?_⟩
  · obtain ⟨p, ds, G, g1, g2, g3, g4, g5, g6⟩ := e2 i e he
    exact ⟨p, ds, G, g1, by simp [g2], g3, g4, g5, fun b hb => by simp [g6 b hb]⟩
  · obtain ⟨p, ds, G, g1, g2, g3, g4, g5, g6⟩ := e4 i e he
    exact ⟨p, ds, G, g1, by simp [g2], g3, g4, g5, fun b hb => by simp [g6 b hb]⟩
end Go.Proofs.YtcebeajjpcbgcaaGreat.cu
namespace Go.Proofs.YtcebeajjpcbgcaaGreat.cu
open Go.ChangeShapes Go.WideShapes Go.ChangeAt Go.RowKit
open ints (hide unhide)
open dt (Dt Kp RowAt Ow Grow OwIn)
open mem (Row)
set_option linter.unusedVariables false
set_option linter.unusedSimpArgs false
/-- a field's cells -/
theorem fld_cells {w : World} {nm : ByteArray} {k : Int} {tx : ByteArray} {bl : Bool} {its fls : Dt} {ln co x y : Int} {cs : List Value} {F : List Nat} (h : Ow w (fldD nm (litD k tx bl its fls ln co) x y) cs F) :
    ∃ ai ni ci af nf cf, cs = [.string nm, .int .i64 k, .string tx, .bool bl, .slice ai ni ci, .slice af nf cf, .int .i64 ln, .int .i64 co, .int .i64 x, .int .i64 y] ∧ Ow w (litD k tx bl its fls ln co) [.int .i64 k, .string tx, .bool bl, .slice ai ni ci, .slice af nf cf, .int .i64 ln, .int .i64 co] F := by
  unfold fldD litD at h
  simp only [app] at h
  unfold Ow at h
  obtain ⟨d0, rfl, _, h⟩ := h
  unfold Ow at h
  obtain ⟨d1, rfl, a1, h⟩ := h
  unfold Ow at h
  obtain ⟨d2, rfl, a2, h⟩ := h
  unfold Ow at h
  obtain ⟨d3, rfl, a3, h⟩ := h
  unfold Ow at h
  obtain ⟨ai, ni, ci, d4, F1, F2, rfl, i1, i2, i3, i4, h, rfl⟩ := h
  unfold Ow at h
  obtain ⟨af, nf, cf, d5, F3, F4, rfl, j1, j2, j3, j4, h, rfl⟩ := h
  unfold Ow at h
  obtain ⟨d6, rfl, a6, h⟩ := h
  unfold Ow at h
  obtain ⟨d7, rfl, a7, h⟩ := h
  unfold Ow at h
  obtain ⟨d8, rfl, a8, h⟩ := h
  unfold Ow at h
  obtain ⟨d9, rfl, a9, h⟩ := h
  unfold Ow at h
  obtain ⟨rfl, rfl⟩ := h
  refine ⟨ai, ni, ci, af, nf, cf, rfl, ?_⟩
  unfold litD Ow
  refine ⟨_, rfl, a1, ?_⟩
  unfold Ow
  refine ⟨_, rfl, a2, ?_⟩
  unfold Ow
  refine ⟨_, rfl, a3, ?_⟩
  unfold Ow
  refine ⟨ai, ni, ci, _, F1, F3 ++ [], rfl, i1, i2, i3, i4, ?_, rfl⟩
  unfold Ow
  refine ⟨af, nf, cf, _, F3, [], rfl, j1, j2, j3, j4, ?_, rfl⟩
  unfold Ow
  refine ⟨_, rfl, a6, ?_⟩
  unfold Ow
  refine ⟨_, rfl, a7, ?_⟩
  unfold Ow
  exact ⟨rfl, rfl⟩
def fvR (r : Option (Int × Int)) : Array Value := match r with
  | none => #[.agg #[.int .i64 0, .int .i64 0], .bool false]
  | some p => #[.agg #[.int .i64 p.1, .int .i64 p.2], .bool true]
theorem infoPo : (Tryz.prog.info? 28).map (·.size) = some 2 := by kernel_rfl
/-- what the loops keep -/
structure FvI (w wr : World) (vc : Array Value) : Prop where
  bel : Below w.heap.size w wr
  v : wr.heap[w.heap.size]? = some (.cells vc 70 (0, 0))
  r : wr.heap[w.heap.size + 1]? = some (.cells #[.int .i64 0, .int .i64 0] 28 (0, 0))
theorem FvI.more {w wr wn : World} {vc : Array Value} (h : FvI w wr vc) (hb : Below wr.heap.size wr wn) : FvI w wn vc := by
  have h1 : w.heap.size < wr.heap.size := by
    rcases Nat.lt_or_ge w.heap.size wr.heap.size with g | g
    · exact g
    · have := h.v; rw [Array.getElem?_eq_none g] at this; cases this
  have h2 : w.heap.size + 1 < wr.heap.size := by
    rcases Nat.lt_or_ge (w.heap.size + 1) wr.heap.size with g | g
    · exact g
    · have := h.r; rw [Array.getElem?_eq_none g] at this; cases this
  exact ⟨h.bel.trans (hb.mono h.bel.size), (hb.block _ h1).trans h.v, (hb.block _ h2).trans h.r⟩
end Go.Proofs.YtcebeajjpcbgcaaGreat.cu
namespace Go.Proofs.YtcebeajjpcbgcaaGreat.cu
open Go.ChangeShapes Go.WideShapes Go.ChangeAt Go.RowKit
open ints (hide unhide)
open dt (Dt Kp RowAt Ow Grow OwIn)
open mem (Row)
open lx (toks chs cln)
set_option linter.unusedVariables false
set_option linter.unusedSimpArgs false
theorem result_tmp_row {P : Program} {fn : Func} {p u : Tmp} {ty : TypeId} (h : fn.results = #[.tmp u, .cell p ty]) (tmps : Array Value) (w : World) (b o : Nat) (cs : List Value) (d : TypeDesc) (hp : tmps.getD p undef = .pointer (some ⟨b, o, none⟩)) (hc : w.rangeAt b o cs)
    (hu : P.underlying ty = some d) (hd : d.isRow = true) (hi : (P.info? ty).map (·.size) = some cs.length) : (results fn tmps).run P w = .ok (.tuple #[tmps.getD u undef, .agg cs.toArray]) w := by
  have := run_loadVar_mid (P := P) w b o ty cs d hc hu hd hi
  have hp' : tmps[p]?.getD undef = .pointer (some ⟨b, o, none⟩) := by simpa using hp
  simp [results, h, hp', asAddr, this]
structure DpI (w wr : World) (a b : Int) : Prop where
  bel : Below w.heap.size w wr
  r : wr.heap[w.heap.size]? = some (.cells #[.int .i64 0, .int .i64 0] 28 (0, 0))
  q : wr.heap[w.heap.size + 1]? = some (.cells #[.int .i64 a, .int .i64 b] 28 (0, 0))
theorem DpI.more {w wr wn : World} {a b : Int} (h : DpI w wr a b) (hb : Below wr.heap.size wr wn) : DpI w wn a b := by
  have h1 : w.heap.size < wr.heap.size := (Array.getElem?_eq_some_iff.1 h.r).1
  have h2 : w.heap.size + 1 < wr.heap.size := (Array.getElem?_eq_some_iff.1 h.q).1
  exact ⟨h.bel.trans (hb.mono h.bel.size), (hb.block _ h1).trans h.r, (hb.block _ h2).trans h.q⟩
theorem dp_set {w wr : World} {a b x y : Int} (h : DpI w wr a b) : DpI w (wr.setCells (w.heap.size + 1) 0 [.int .i64 x, .int .i64 y]) x y := by
  refine ⟨dt.below_setCells _ _ _ _ h.bel (by omega), (dt.heap_setCells _ _ (by omega) _ _ _).trans h.r, ?_⟩
  exact (dt.setCells_at [.int .i64 x, .int .i64 y] 0 wr _ h.q).trans (by rfl)
set_option maxHeartbeats 8000000 in
set_option maxRecDepth 4000 in
/-- how many brackets are open at most, and the place of the first that is one too many -/
theorem deepest_ok (p n cap : Nat) (ts : List Tk) (L : Int) (w : World) (hn : ts.length = n) (hn2 : n ≤ 4294967296) (hL : 0 ≤ L ∧ L ≤ 200) (hp : p < w.heap.size) (hrows : ∀ i u, ts[i]? = some u → RowAt w p (i * 7) u.cells) :
    Calls Tryz.prog 14 #[.slice (some ⟨p, 0, none⟩) n cap, .int .i64 L] w fun e w' => e = .returned (.tuple #[.int .i64 (dps L ts n).2.1, .agg #[.int .i64 (dps L ts n).2.2.1, .int .i64 (dps L ts n).2.2.2]]) ∧ Below w.heap.size w w' := by
  have hR0 := hide hrows
  have HN := hide hn
  clear hrows hn
  go_enter Tryz.func14, Tryz.ntmps14
  go_wp2_with fail
  obtain ⟨w0, hw0⟩ : ∃ w0, w0 = (w.alloc (.cells #[.int .i64 0, .int .i64 0] 28)).alloc (.cells #[.int .i64 0, .int .i64 0] 28) := ⟨_, rfl⟩
  have hI0 : DpI w w0 0 0 := by
    have := two_at w #[.int .i64 0, .int .i64 0] #[.int .i64 0, .int .i64 0] 28 28
    rw [hw0]
    exact ⟨two_alloc _ _ _, this.1, this.2⟩
  rw [← hw0]
  clear hw0
  go_loopw [6, 7, 13] (fun ov mv i wr => ∃ k : Nat, k ≤ n ∧ i = .int .i64 k ∧ ov = .int .i64 (dps L ts k).1 ∧ mv = .int .i64 (dps L ts k).2.1 ∧ DpI w wr (dps L ts k).2.2.1 (dps L ts k).2.2.2) (fun _ _ i _ => n - (intOf i).toNat)
  case atStart => exact ⟨0, Nat.zero_le _, rfl, rfl, rfl, hI0⟩
  case round =>
    obtain ⟨k, hk, rfl, rfl, rfl, hI⟩ := hrel
    have hbd := dps_bd L ts k
    by_cases hkn : k < n
    · have ki : (k : Int) < (n : Int) := by omega
      have hkl : k < ts.length := by rw [unhide HN]; exact hkn
      have hget := List.getElem?_eq_getElem hkl
      have hgd : ts.getD k Tk.zero = ts[k] := by rw [List.getD_eq_getElem?_getD, hget]; rfl
      obtain ⟨u, hu⟩ : ∃ u, u = ts[k] := ⟨_, rfl⟩
      rw [← hu] at hget hgd
      clear hu
      have hst : dps L ts (k + 1) = dpS L (dps L ts k) u := by rw [← hgd]; rfl
      have hrow7 := (unhide hR0) k u hget
      unfold Tk.cells at hrow7
      have hc := fun (q : Nat) (v : Value) hv => (hI.bel.cell (p := ⟨p, k * 7 + q, none⟩) hp).trans (hrow7 q v hv)
      have m0 : wr.cell? ⟨p, k * 7, none⟩ = some (.int .i64 u.k) := hc 0 _ rfl
      have m1 : wr.cell? ⟨p, k * 7 + 1, none⟩ = some (.int .i64 u.ln) := hc 1 _ rfl
      have m2 : wr.cell? ⟨p, k * 7 + 2, none⟩ = some (.int .i64 u.co) := hc 2 _ rfl
      have m3 : wr.cell? ⟨p, k * 7 + 3, none⟩ = some (.int .i64 u.fr) := hc 3 _ rfl
      have m4 : wr.cell? ⟨p, k * 7 + 4, none⟩ = some (.int .i64 u.to) := hc 4 _ rfl
      have m5 : wr.cell? ⟨p, k * 7 + 5, none⟩ = some (.string u.tx) := hc 5 _ rfl
      have m6 : wr.cell? ⟨p, k * 7 + 6, none⟩ = some (.string u.va) := hc 6 _ rfl
      have bN := fun o => show Below wr.heap.size wr (wr.alloc o) from (Below.refl _ _).alloc (Nat.le_refl _) _
      have HI := hide (fun o => hI.more (bN o))
      obtain ⟨s, hs⟩ : ∃ s, s = dps L ts k := ⟨_, rfl⟩
      rw [← hs] at hst hbd HI ⊢
      have HST := hide hst
      obtain ⟨o, m, a, b⟩ := s
      obtain ⟨uk, ul, uo, uf, ug, ux, uv⟩ := u
      simp only at m0 m1 m2 m3 m4 m5 m6 hbd
      have x0 : ∀ o, (wr.alloc o).cell? ⟨w.heap.size + 1, 0, none⟩ = some (.int .i64 a) := fun o => (dt.cell_cells ((unhide HI) o).q 0).trans rfl
      have x1 : ∀ o, (wr.alloc o).cell? ⟨w.heap.size + 1, 1, none⟩ = some (.int .i64 b) := fun o => (dt.cell_cells ((unhide HI) o).q 1).trans rfl
      have HT := hide (fun o => show (wr.alloc o).there (w.heap.size + 1) 0 2 from dt.there_cells ((unhide HI) o).q (Nat.le_refl 2))
      clear hc hrow7 hI bN hs hst hget hgd hkl
      simp only
      by_cases h2 : uk = 2
      · subst h2
        by_cases q0 : ux = ⟨#[40]⟩
        · subst q0
          have w1 : IntKind.i64.wrap (o + 1) = o + 1 := by rw [IntKind.wrap_i64]; omega
          have w2 : IntKind.i64.wrap (L + 1) = L + 1 := by rw [IntKind.wrap_i64]; omega
          by_cases ho : o = L
          · subst ho
            by_cases ha : a = 0
            · subst ha
              by_cases hb : b = 0
              · subst hb
                go_wp2_with (first
                  | refine wpList_store_mid (by rfl) 28 _ _ (by rfl) (w.heap.size + 1) 0 #[.int .i64 ul, .int .i64 uo] (by rfl) (by rfl) ((unhide HT) _) infoPo (dt.one_cells (cs := [.int .i64 ul, .int .i64 uo]) (by rfl)) ?_)
                go_roundw
                case rel => (
                  have e := unhide HST
                  unfold dpS at e
                  dsimp only at e
                  rw [if_pos rfl, if_pos (.inl rfl), if_pos ⟨rfl, rfl, rfl⟩] at e
                  refine ⟨k + 1, by omega, by go_num, by rw [e], by rw [e], ?_⟩
                  rw [e]
                  exact dp_set ((unhide HI) _))
                case measure => first | (simp [intOf]; omega) | simp [intOf]
              · skip
                go_wp2_with fail
                go_roundw
                case rel => (
                  have e := unhide HST
                  unfold dpS at e
                  dsimp only at e
                  rw [if_pos rfl, if_pos (.inl rfl), if_neg (fun x => hb x.2.2)] at e
                  refine ⟨k + 1, by omega, by go_num, by rw [e], by rw [e], ?_⟩
                  rw [e]
                  exact (unhide HI) _)
                case measure => first | (simp [intOf]; omega) | simp [intOf]
            · skip
              go_wp2_with fail
              go_roundw
              case rel => (
                have e := unhide HST
                unfold dpS at e
                dsimp only at e
                rw [if_pos rfl, if_pos (.inl rfl), if_neg (fun x => ha x.2.1)] at e
                refine ⟨k + 1, by omega, by go_num, by rw [e], by rw [e], ?_⟩
                rw [e]
                exact (unhide HI) _)
              case measure => first | (simp [intOf]; omega) | simp [intOf]
          · have hoL : ¬ o + 1 = L + 1 := by omega
            go_wp2_with fail
            go_roundw
            case rel => (
              have e := unhide HST
              unfold dpS at e
              dsimp only at e
              rw [if_pos rfl, if_pos (.inl rfl), if_neg (fun x => hoL x.1)] at e
              refine ⟨k + 1, by omega, by go_num, by rw [e], by rw [e], ?_⟩
              rw [e]
              exact (unhide HI) _)
            case measure => first | (simp [intOf]; omega) | simp [intOf]
        · skip
          by_cases q1 : ux = ⟨#[91]⟩
          · subst q1
            have w1 : IntKind.i64.wrap (o + 1) = o + 1 := by rw [IntKind.wrap_i64]; omega
            have w2 : IntKind.i64.wrap (L + 1) = L + 1 := by rw [IntKind.wrap_i64]; omega
            by_cases ho : o = L
            · subst ho
              by_cases ha : a = 0
              · subst ha
                by_cases hb : b = 0
                · subst hb
                  go_wp2_with (first
                    | refine wpList_store_mid (by rfl) 28 _ _ (by rfl) (w.heap.size + 1) 0 #[.int .i64 ul, .int .i64 uo] (by rfl) (by rfl) ((unhide HT) _) infoPo (dt.one_cells (cs := [.int .i64 ul, .int .i64 uo]) (by rfl)) ?_)
                  go_roundw
                  case rel => (
                    have e := unhide HST
                    unfold dpS at e
                    dsimp only at e
                    rw [if_pos rfl, if_pos (.inr (.inl rfl)), if_pos ⟨rfl, rfl, rfl⟩] at e
                    refine ⟨k + 1, by omega, by go_num, by rw [e], by rw [e], ?_⟩
                    rw [e]
                    exact dp_set ((unhide HI) _))
                  case measure => first | (simp [intOf]; omega) | simp [intOf]
                · skip
                  go_wp2_with fail
                  go_roundw
                  case rel => (
                    have e := unhide HST
                    unfold dpS at e
                    dsimp only at e
                    rw [if_pos rfl, if_pos (.inr (.inl rfl)), if_neg (fun x => hb x.2.2)] at e
                    refine ⟨k + 1, by omega, by go_num, by rw [e], by rw [e], ?_⟩
                    rw [e]
                    exact (unhide HI) _)
                  case measure => first | (simp [intOf]; omega) | simp [intOf]
              · skip
                go_wp2_with fail
                go_roundw
                case rel => (
                  have e := unhide HST
                  unfold dpS at e
                  dsimp only at e
                  rw [if_pos rfl, if_pos (.inr (.inl rfl)), if_neg (fun x => ha x.2.1)] at e
                  refine ⟨k + 1, by omega, by go_num, by rw [e], by rw [e], ?_⟩
                  rw [e]
                  exact (unhide HI) _)
                case measure => first | (simp [intOf]; omega) | simp [intOf]
            · have hoL : ¬ o + 1 = L + 1 := by omega
              go_wp2_with fail
              go_roundw
              case rel => (
                have e := unhide HST
                unfold dpS at e
                dsimp only at e
                rw [if_pos rfl, if_pos (.inr (.inl rfl)), if_neg (fun x => hoL x.1)] at e
                refine ⟨k + 1, by omega, by go_num, by rw [e], by rw [e], ?_⟩
                rw [e]
                exact (unhide HI) _)
              case measure => first | (simp [intOf]; omega) | simp [intOf]
          · skip
            by_cases q2 : ux = ⟨#[123]⟩
            · subst q2
              have w1 : IntKind.i64.wrap (o + 1) = o + 1 := by rw [IntKind.wrap_i64]; omega
              have w2 : IntKind.i64.wrap (L + 1) = L + 1 := by rw [IntKind.wrap_i64]; omega
              by_cases ho : o = L
              · subst ho
                by_cases ha : a = 0
                · subst ha
                  by_cases hb : b = 0
                  · subst hb
                    go_wp2_with (first
                      | refine wpList_store_mid (by rfl) 28 _ _ (by rfl) (w.heap.size + 1) 0 #[.int .i64 ul, .int .i64 uo] (by rfl) (by rfl) ((unhide HT) _) infoPo (dt.one_cells (cs := [.int .i64 ul, .int .i64 uo]) (by rfl)) ?_)
                    go_roundw
                    case rel => (
                      have e := unhide HST
                      unfold dpS at e
                      dsimp only at e
                      rw [if_pos rfl, if_pos (.inr (.inr rfl)), if_pos ⟨rfl, rfl, rfl⟩] at e
                      refine ⟨k + 1, by omega, by go_num, by rw [e], by rw [e], ?_⟩
                      rw [e]
                      exact dp_set ((unhide HI) _))
                    case measure => first | (simp [intOf]; omega) | simp [intOf]
                  · skip
                    go_wp2_with fail
                    go_roundw
                    case rel => (
                      have e := unhide HST
                      unfold dpS at e
                      dsimp only at e
                      rw [if_pos rfl, if_pos (.inr (.inr rfl)), if_neg (fun x => hb x.2.2)] at e
                      refine ⟨k + 1, by omega, by go_num, by rw [e], by rw [e], ?_⟩
                      rw [e]
                      exact (unhide HI) _)
                    case measure => first | (simp [intOf]; omega) | simp [intOf]
                · skip
                  go_wp2_with fail
                  go_roundw
                  case rel => (
                    have e := unhide HST
                    unfold dpS at e
                    dsimp only at e
                    rw [if_pos rfl, if_pos (.inr (.inr rfl)), if_neg (fun x => ha x.2.1)] at e
                    refine ⟨k + 1, by omega, by go_num, by rw [e], by rw [e], ?_⟩
                    rw [e]
                    exact (unhide HI) _)
                  case measure => first | (simp [intOf]; omega) | simp [intOf]
              · have hoL : ¬ o + 1 = L + 1 := by omega
                go_wp2_with fail
                go_roundw
                case rel => (
                  have e := unhide HST
                  unfold dpS at e
                  dsimp only at e
                  rw [if_pos rfl, if_pos (.inr (.inr rfl)), if_neg (fun x => hoL x.1)] at e
                  refine ⟨k + 1, by omega, by go_num, by rw [e], by rw [e], ?_⟩
                  rw [e]
                  exact (unhide HI) _)
                case measure => first | (simp [intOf]; omega) | simp [intOf]
            · skip
              by_cases r0 : ux = ⟨#[41]⟩
              · subst r0
                have w1 : IntKind.i64.wrap (o - 1) = o - 1 := by rw [IntKind.wrap_i64]; omega
                go_wp2_with fail
                go_roundw
                case rel => (
                  have e := unhide HST
                  unfold dpS at e
                  dsimp only at e
                  rw [if_pos rfl, if_neg (fun x => by rcases x with x | x | x; exact q0 x; exact q1 x; exact q2 x), if_pos (.inl rfl)] at e
                  refine ⟨k + 1, by omega, by go_num, by rw [e], by rw [e], ?_⟩
                  rw [e]
                  exact (unhide HI) _)
                case measure => first | (simp [intOf]; omega) | simp [intOf]
              · skip
                by_cases r1 : ux = ⟨#[93]⟩
                · subst r1
                  have w1 : IntKind.i64.wrap (o - 1) = o - 1 := by rw [IntKind.wrap_i64]; omega
                  go_wp2_with fail
                  go_roundw
                  case rel => (
                    have e := unhide HST
                    unfold dpS at e
                    dsimp only at e
                    rw [if_pos rfl, if_neg (fun x => by rcases x with x | x | x; exact q0 x; exact q1 x; exact q2 x), if_pos (.inr (.inl rfl))] at e
                    refine ⟨k + 1, by omega, by go_num, by rw [e], by rw [e], ?_⟩
                    rw [e]
                    exact (unhide HI) _)
                  case measure => first | (simp [intOf]; omega) | simp [intOf]
                · skip
                  by_cases r2 : ux = ⟨#[125]⟩
                  · subst r2
                    have w1 : IntKind.i64.wrap (o - 1) = o - 1 := by rw [IntKind.wrap_i64]; omega
                    go_wp2_with fail
                    go_roundw
                    case rel => (
                      have e := unhide HST
                      unfold dpS at e
                      dsimp only at e
                      rw [if_pos rfl, if_neg (fun x => by rcases x with x | x | x; exact q0 x; exact q1 x; exact q2 x), if_pos (.inr (.inr rfl))] at e
                      refine ⟨k + 1, by omega, by go_num, by rw [e], by rw [e], ?_⟩
                      rw [e]
                      exact (unhide HI) _)
                    case measure => first | (simp [intOf]; omega) | simp [intOf]
                  · skip
                    have q0' : (ux.toList == [40]) = false := by rw [str_lit (by rw [ByteArray.toList_eq])]; exact decide_eq_false q0
                    have q1' : (ux.toList == [91]) = false := by rw [str_lit (by rw [ByteArray.toList_eq])]; exact decide_eq_false q1
                    have q2' : (ux.toList == [123]) = false := by rw [str_lit (by rw [ByteArray.toList_eq])]; exact decide_eq_false q2
                    have r0' : (ux.toList == [41]) = false := by rw [str_lit (by rw [ByteArray.toList_eq])]; exact decide_eq_false r0
                    have r1' : (ux.toList == [93]) = false := by rw [str_lit (by rw [ByteArray.toList_eq])]; exact decide_eq_false r1
                    have r2' : (ux.toList == [125]) = false := by rw [str_lit (by rw [ByteArray.toList_eq])]; exact decide_eq_false r2
                    go_wp2_with fail
                    go_roundw
                    case rel => (
                      have e := unhide HST
                      unfold dpS at e
                      dsimp only at e
                      rw [if_pos rfl, if_neg (fun x => by rcases x with x | x | x; exact q0 x; exact q1 x; exact q2 x), if_neg (fun x => by rcases x with x | x | x; exact r0 x; exact r1 x; exact r2 x)] at e
                      refine ⟨k + 1, by omega, by go_num, by rw [e], by rw [e], ?_⟩
                      rw [e]
                      exact (unhide HI) _)
                    case measure => first | (simp [intOf]; omega) | simp [intOf]
      · skip
        go_wp2_with fail
        go_roundw
        case rel => (
          have e := unhide HST
          unfold dpS at e
          dsimp only at e
          rw [if_neg h2] at e
          refine ⟨k + 1, by omega, by go_num, by rw [e], by rw [e], ?_⟩
          rw [e]
          exact (unhide HI) _)
        case measure => first | (simp [intOf]; omega) | simp [intOf]
    · have ki : ¬ (k : Int) < (n : Int) := by omega
      obtain rfl : k = n := by omega
      obtain ⟨s, hs⟩ : ∃ s, s = dps L ts k := ⟨_, rfl⟩
      rw [← hs] at hI ⊢
      obtain ⟨o, m, a, b⟩ := s
      have Hs := hide hs
      clear hs hbd
      simp only at hI ⊢
      have c0 : wr.cell? ⟨w.heap.size + 1, 0, none⟩ = some (.int .i64 a) := (dt.cell_cells hI.q 0).trans rfl
      have c1 : wr.cell? ⟨w.heap.size + 1, 1, none⟩ = some (.int .i64 b) := (dt.cell_cells hI.q 1).trans rfl
      have HI := hide hI
      clear hI
      go_wp2_with fail
      have bD : Below wr.heap.size wr { wr with drawn := wr.drawn + 1 } := (Below.refl _ _).drew
      obtain ⟨Y, hY⟩ : ∃ Y, Y = { wr with drawn := wr.drawn + 1 } := ⟨_, rfl⟩
      rw [← hY] at bD
      have hIY := (unhide HI).more bD
      have hS0 : Y.heap[w.heap.size + 1]? = some (.cells #[.int .i64 a, .int .i64 b] 28 (0, 0)) := hIY.q
      have HT1 : Y.there w.heap.size 0 2 := dt.there_cells hIY.r (Nat.le_refl 2)
      refine wp_region_noPanic ?_
      refine wp_region_held (S := fun w' => w'.heap[w.heap.size + 1]? = some (.cells #[.int .i64 a, .int .i64 b] 28 (0, 0))) mixed ?_
      rw [← hY]
      clear hY
      refine wpAnyH_take (i := 0) (v := ?v1) rfl (by kernel_rfl) (by kernel_rfl) (by kernel_rfl) (fun _ _ _ h => h) (Or.inl ⟨by rfl, ?hy1⟩) hS0 ?_
      case hy1 => (intro w' hw'; skip; go_simp; try with_reducible rfl)
      simp only [List.getElem_toArray, List.getElem_cons_zero, List.getElem_cons_succ, Act.put, List.setIfInBounds_toArray, List.set_cons_zero, List.set_cons_succ]
      refine wpAnyH_take (i := 1) (v := ?v2) rfl (by kernel_rfl) (by kernel_rfl) (by kernel_rfl) (fun _ _ _ h => h) (Or.inl ⟨by rfl, ?hy2⟩) hS0 ?_
      case hy2 => (intro w' hw'; have q0 := (dt.cell_cells hw' 0).trans rfl; have q1 := (dt.cell_cells hw' 1).trans rfl; go_simp; try with_reducible rfl)
      simp only [List.getElem_toArray, List.getElem_cons_zero, List.getElem_cons_succ, Act.put, List.setIfInBounds_toArray, List.set_cons_zero, List.set_cons_succ]
      refine wpAnyH_take (i := 2) (v := ?v3) rfl (by kernel_rfl) (by kernel_rfl) (by kernel_rfl) (fun _ _ _ h => h) (Or.inl ⟨by rfl, ?hy3⟩) hS0 ?_
      case hy3 => (intro w' hw'; skip; go_simp; try with_reducible rfl)
      simp only [List.getElem_toArray, List.getElem_cons_zero, List.getElem_cons_succ, Act.put, List.setIfInBounds_toArray, List.set_cons_zero, List.set_cons_succ]
      refine rgn.one (i := 3) _ rfl (by kernel_rfl) (by rfl) ?_
      simp only [List.getElem_toArray, List.getElem_cons_zero, List.getElem_cons_succ, Act.put, List.setIfInBounds_toArray, List.set_cons_zero, List.set_cons_succ]
      refine wp_store_mid 28 _ _ (by rfl) w.heap.size 0 #[.int .i64 a, .int .i64 b] (by rfl) (by rfl) HT1 infoPo (dt.one_cells (cs := [.int .i64 a, .int .i64 b]) (by rfl)) ?_
      have hS3 : (Y.setCells w.heap.size 0 [.int .i64 a, .int .i64 b]).heap[w.heap.size + 1]? = some (.cells #[.int .i64 a, .int .i64 b] 28 (0, 0)) := (dt.heap_setCells _ _ (by omega) _ _ _).trans hS0
      refine ⟨hS3, ?_⟩
      clear hS0
      have hS0 := hS3
      try simp only [List.getElem_toArray, List.getElem_cons_zero, List.getElem_cons_succ, Act.put, List.setIfInBounds_toArray, List.set_cons_zero, List.set_cons_succ]
      refine wpAnyH_done (by kernel_rfl) ?_ _; refine NoPanic.normal ?_
      go_wp2_with fail
      refine bodyPost_ret (result_tmp_row rfl _ _ w.heap.size 0 [.int .i64 a, .int .i64 b] _ rfl (World.rangeAt_setCells_same _ _ _ _ HT1) Tryz.underlying28 rfl infoPo) rfl ?_
      refine ⟨?_, dt.below_setCells _ _ _ _ hIY.bel (Nat.le_refl _)⟩
      rw [← unhide Hs]
      rfl
end Go.Proofs.YtcebeajjpcbgcaaGreat.cu
