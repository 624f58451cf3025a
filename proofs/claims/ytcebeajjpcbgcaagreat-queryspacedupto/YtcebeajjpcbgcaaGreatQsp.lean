import Derived.Test.YtcebeajjpcbgcaaGreatQne18
set_option linter.unusedVariables false
set_option linter.unusedSimpArgs false
namespace Go.Proofs.YtcebeajjpcbgcaaGreat.mem
open Go.ChangeShapes Go.WideShapes Go.ChangeAt Go.RowKit
open ints (hide unhide)
theorem row_of_cells {k : IntKind} {w : World} {A : Option Addr} {L C : Nat} {Z : List Int} (h1 : L ≤ C) (h2 : Z.length = C) (h3 : A = none → C = 0) (h4 : ∀ a', A = some a' → ∀ c, c < C → w.cell? (a'.add c) = some (.int k (Z.getD c 0))) :
  Row k w A L C (Z.take L) := by
 refine ⟨by simp; omega, h1, h3, ?_⟩
 by_cases h0 : L = 0
 ·exact .inl h0
 ·right
  cases A with
  | none => have := h3 rfl; omega
  | some a' =>
   obtain ⟨b, off, spot⟩ := a'
   have hc := h4 _ rfl 0 (by omega)
   have hspot : spot = none := by simpa [Addr.add] using World.cell?_spot hc
   subst hspot
   refine ⟨b, off, rfl, ?_, fun i hi => ?_⟩
   ·exact World.block_lt_of_cell? w _ hc
   ·have := h4 _ rfl i (by omega)
    rw [Addr.add_lit] at this
    rw [this]
    simp [List.getD, hi]
end Go.Proofs.YtcebeajjpcbgcaaGreat.mem
namespace Go.Proofs.YtcebeajjpcbgcaaGreat.mem
open Go.ChangeShapes Go.WideShapes Go.ChangeAt Go.RowKit
open ints (hide unhide)
theorem bulk_pos {H : Type} (d : DataW H) : 1 ≤ Rows.uptoBulk d := by
 cases d with
 | lit l => cases l <;> simp [Rows.uptoBulk]
 | _ => simp [Rows.uptoBulk]
theorem bulk_len {H : Type} : ∀ (l : List (DataW H)), l.length ≤ Rows.uptoBulkAll l
 | [] => by simp [Rows.uptoBulkAll]
 | x :: r => by
  have := bulk_len r
  have := bulk_pos x
  simp only [Rows.uptoBulkAll, List.length_cons]
  omega
theorem bulk_slice {H : Type} (e s : List (DataW H)) : e.length + s.length ≤ Rows.uptoBulk (.slice e s) := by
 have := bulk_len e
 have := bulk_len s
 simp only [Rows.uptoBulk]
 omega
theorem wf_byt {zs : List Int} (h : ∀ z ∈ zs, (Lit.int .u8 z).wf = true) : ∀ z ∈ zs, 0 ≤ z ∧ z ≤ 255 := fun z hz => by
 simpa [Lit.wf, IntKind.min, IntKind.max, IntKind.signed, IntKind.bits] using h z hz
theorem row_of {H : Type} {enc : TypeId × Value → H} {P : Program} {w : World} {base : Nat} {held : Bool} {t q : TypeId} {k : IntKind} {fuel : Nat} {a0 : Option Addr} {len0 cap0 : Nat} {d : DataW H} {p : List MemPlace}
  (ht : P.underlying t = some (.slice q)) (hq : P.underlying q = some (.int k)) (cq : P.cellsOf q = 1)
  (h : DataW.trod enc P w base (fun _ => true) held fuel t [.slice a0 len0 cap0] = some (d, p)) :
  ∃ zs, Row k w a0 len0 cap0 zs ∧ (∀ z ∈ zs, (Lit.int k z).wf = true) ∧ len0 ≤ Rows.uptoBulk d := by
 rcases open_ints ht hq cq h with ⟨hcs, _⟩ | ⟨x, l, c, zs, hcs, _, hl, hm, hz, hx, hcell, hwz⟩
 ·simp at hcs
  obtain ⟨rfl, rfl, rfl⟩ := hcs
  exact ⟨[], ⟨rfl, Nat.le_refl _, fun _ => rfl, .inl rfl⟩, by simp, Nat.zero_le _⟩
 ·simp at hcs
  obtain ⟨rfl, rfl, rfl⟩ := hcs
  simp only [if_true] at hz
  simp only [Prod.mk.injEq] at hx
  refine ⟨zs.take len0, row_of_cells hl hz (fun e => by cases e) (fun a' ha c hc => ?_), fun z hz' => hwz z (List.mem_of_mem_take hz'), ?_⟩
  ·obtain rfl := Option.some.inj ha
   exact hcell c (by rw [hz]; exact hc)
  ·rw [hx.1]
   refine Nat.le_trans ?_ (bulk_slice _ _)
   simp [lits]
   omega
end Go.Proofs.YtcebeajjpcbgcaaGreat.mem
namespace Go.Proofs.YtcebeajjpcbgcaaGreat.mem
open Go.ChangeShapes Go.WideShapes Go.ChangeAt Go.RowKit
open ints (hide unhide)
theorem putB_byt {c : Int} (h : scP c) : Byt (putB c) := by
 intro z hz
 unfold scP at h
 unfold putB at hz
 repeat' split at hz
 all_goals simp at hz
 all_goals omega
end Go.Proofs.YtcebeajjpcbgcaaGreat.mem
namespace Go.Proofs.YtcebeajjpcbgcaaGreat.cu
open dt (Dt Kp RowAt Ow Grow)
def wwR (ws : List ByteArray) : Cu → Bool × Cu := fun c => (c.isW ws, c.nmC (c.isW ws))
def opnR (p : ByteArray) : Cu → Bool × Cu := fun c => (c.opB p, c.opn p)
def clsR (p : ByteArray) : Cu → Bool × Cu := fun c => (c.isP p, c.cls p)
theorem wwR_st (ws : List ByteArray) : St (wwR ws) := fun c h => nmC_stp h (fun e => isW_N e)
theorem opnR_st (p : ByteArray) : St (opnR p) := fun c h => opn_stp h p
theorem clsR_st (p : ByteArray) : St (clsR p) := fun c h => cls_stp h p
theorem ite_st {A : Type} {b : Bool} {E F : Cu → A × Cu} (h : St E) (k : St F) : St (cond b E F) := by cases b; exact k; exact h
section
variable {m b b' : Nat}
end
end Go.Proofs.YtcebeajjpcbgcaaGreat.cu
namespace Go.Proofs.YtcebeajjpcbgcaaGreat.cu
open dt (Dt Kp RowAt Ow Grow)
theorem varQ_eq (T : TypR) (L : LitR) : varQ T L = bnd tokR fun t => bnd (wantR bDol) fun _ => bnd nmR fun n => bnd (wantR bCol) fun _ => bnd T fun ty => bnd (punctR bEq) fun q => bnd (cond q L (ret none)) fun v => bnd (dirs L) fun d => ret (d.map fun ds => varD n ((ty.map (·.1)).getD em) ((ty.map (·.2)).getD em) q (cond q (v.getD zeroD) zeroD) ds t.ln t.co) := by
 funext c
 simp only [varQ, bnd, tokR, wantR, nmR, punctR, Cu.punct, varC3, varU, varV]
 rcases bb ((T (((c.want bDol).name).want bCol)).2.isP bEq) with h | h
 ·simp only [h, Bool.false_eq_true, if_false, cond_false, ret]
  cases (dirs L (T (((c.want bDol).name).want bCol)).2).1 <;> rfl
 ·simp only [h, if_true, cond_true, ret]
  cases (dirs L (L (T (((c.want bDol).name).want bCol)).2.take).2).1 <;> rfl
theorem bodyS_eq (L : LitR) (S : LstR) (k : Int) (nm on : ByteArray) (vs : List Dt) (t : Tk) : bodyS L S k nm on vs t = bnd (dirs L) fun d => bnd S fun r => ret (r.map fun ss => defD k nm on false vs (d.getD []) ss t.ln t.co) := by
 funext c
 simp only [bodyS, bnd, ret]
 cases (S (dirs L c).2).1 <;> rfl
theorem varsS_eq (T : TypR) (K : LitR) : varsS T K = bnd (isPR bLp) fun q => cond q (brk (varQ T K) bLp bRp 1) (ret (some [])) := by
 funext c
 simp only [varsS, bnd, isPR, ret]
 rcases bb (c.isP bLp) with h | h
 ·simp only [h, Bool.false_eq_true, if_false, cond_false, ret]
 ·simp only [h, if_true, cond_true]
theorem operS_eq (T : TypR) (K L : LitR) (S : LstR) (k : Int) (t : Tk) : operS T K L S k t = bnd tokR fun u => bnd (cond (decide (u.k = 3)) nmR (ret em)) fun n => bnd (varsS T K) fun v => bodyS L S k n em (v.getD []) t := by
 funext c
 simp only [operS, bnd, tokR, opC]
 by_cases h : c.tok.k = 3
 ·simp only [h, if_true, decide_true, cond_true, nmR]
 ·have : c.nmS = em := by unfold Cu.nmS Cu.isN; simp [h]
  simp only [h, if_false, decide_false, Bool.false_eq_true, cond_false, ret, this]
theorem fragS_eq (L : LitR) (S : LstR) (t : Tk) : fragS L S t = bnd (butR [bOn]) fun n => bnd (wwR [bOn]) fun _ => bnd nmR fun on => bodyS L S 4 n on [] t := rfl
def wordsR : Cu → (Bool × ByteArray) × Cu := fun c => ((c.isW [bQuery, bMut, bSub, bFrag], c.tok.tx), c.nmC (c.isW [bQuery, bMut, bSub, bFrag]))
theorem wordsR_st : St wordsR := fun c h => nmC_stp h (fun e => isW_N e)
def kindS (x : ByteArray) : Option Int := if x = bQuery then some 1 else if x = bMut then some 2 else if x = bSub then some 3 else none
theorem defS_eq (T : TypR) (K L : LitR) (S : LstR) : defS T K L S = bnd tokR fun t => bnd (isPR bLc) fun q => cond q (bnd S fun r => ret (r.map fun ss => defD 1 em em true [] [] ss t.ln t.co)) (bnd wordsR fun u => cond u.1 (match kindS u.2 with | some k => operS T K L S k t | none => fragS L S t) (ret none)) := by
 funext c
 simp only [defS, bnd, tokR, isPR, wordsR, Cu.nmC]
 rcases bb (c.isP bLc) with h | h
 ·simp only [h, Bool.false_eq_true, if_false, cond_false, bnd, wordsR, Cu.nmC]
  rcases bb (c.isW [bQuery, bMut, bSub, bFrag]) with g | g
  ·simp only [g, Bool.false_eq_true, if_false, cond_false, ret]
  ·simp only [g, if_true, cond_true, kindS]
   by_cases h1 : c.tok.tx = bQuery
   ·simp only [h1, if_true, cond_true]
   ·simp only [h1, if_false]
    by_cases h2 : c.tok.tx = bMut
    ·simp only [h2, if_true, cond_true]
    ·simp only [h2, if_false]
     by_cases h3 : c.tok.tx = bSub
     ·simp only [h3, if_true, cond_true]
     ·simp only [h3, if_false]
 ·simp only [h, if_true, cond_true, bnd]
  cases (S c).1 <;> rfl
end Go.Proofs.YtcebeajjpcbgcaaGreat.cu
namespace Go.Proofs.YtcebeajjpcbgcaaGreat.cu
open dt (Dt Kp RowAt Ow Grow)
theorem typF_st (f : Nat) : St (typF f) := fun c h => (typF_goes f c h).1
section
variable {m b b' : Nat}
theorem map_st {A X : Type} {E : Cu → A × Cu} (s : St E) (f : A → X) : St (bnd E fun r => ret (f r)) := s.bnd fun _ => ret_st _
end
end Go.Proofs.YtcebeajjpcbgcaaGreat.cu
namespace Go.Proofs.YtcebeajjpcbgcaaGreat.cu
open dt (Dt Kp RowAt Ow Grow)
def unmI (T : TypR) : Cu → Option (ByteArray × ByteArray) × Cu := bnd T fun r => match r with | none => ret none | some it => bnd (clsR bRb) fun cl => ret (cond cl (some (it.1, it.2 ++ bRb)) none)
theorem unm_eq (T : TypR) : unm T = bnd (isPR bLb) fun q => cond q (bnd (opnR bLb) (fun o => cond o (unmI T) (ret none))) (bnd nR fun n => ret (cond n.1 (some (n.2, em)) none)) := by
 funext c
 simp only [unm, bnd, isPR, opnR, nR, unmI]
 rcases bb (c.isP bLb) with h | h
 ·simp only [h, Bool.false_eq_true, if_false, cond_false, ret, bnd, nR]
  rcases bb c.isN with g | g
  ·simp only [g, Bool.false_eq_true, if_false, cond_false]
  ·simp only [g, if_true, cond_true]
 ·simp only [h, if_true, cond_true, bnd, opnR]
  rcases bb (c.opB bLb) with g | g
  ·simp only [g, Bool.false_eq_true, if_false, cond_false, ret]
  ·simp only [g, if_true, cond_true, unmI, bnd]
   cases hq : (T (c.opn bLb)).1 with
   | none => rfl
   | some it =>
    simp only [bnd, clsR, ret]
    rcases bb ((T (c.opn bLb)).2.isP bRb) with k | k
    ·simp only [k, Bool.false_eq_true, if_false, cond_false]
    ·simp only [k, if_true, cond_true]
theorem typ_eq (U : TypR) : typ U = bnd U fun r => match r with | none => ret none | some r => bnd (punctR bBang) fun q => ret (some (cond q (r.1, r.2 ++ bBang) r)) := by
 funext c
 simp only [typ, bnd]
 cases hq : (U c).1 with
 | none => rfl
 | some it =>
  simp only [bnd, punctR, ret]
  rcases bb ((U c).2.isP bBang) with k | k
  ·simp only [k, Bool.false_eq_true, if_false, cond_false]
  ·simp only [k, if_true, cond_true]
section
variable {m b b' : Nat}
theorem unmI_st {T : TypR} (h : St T) : St (unmI T) := h.bnd fun r => by
 cases r with
 | none => exact ret_st _
 | some it => exact map_st (clsR_st _) _
end
end Go.Proofs.YtcebeajjpcbgcaaGreat.cu
namespace Go.Proofs.YtcebeajjpcbgcaaGreat.cu
open dt (Dt Kp RowAt Ow Grow)
section
variable {M b : Nat}
theorem wwR_3 (ws : List ByteArray) : Ok3 M (wwR ws) b := prim3 (wwR_st ws) (fun c h => nmC_sti h (fun e => isW_N e)) (fun c h0 hk => nmC_1 (fun e => isW_N e) hk) (fun c => by
 show (c.isW ws, (c.at M).nmC _) = (c.isW ws, (c.nmC _).at M)
 rw [nmC_at]; rfl)
theorem wordsR_3 : Ok3 M wordsR b := prim3 wordsR_st (fun c h => nmC_sti h (fun e => isW_N e)) (fun c h0 hk => nmC_1 (fun e => isW_N e) hk) (fun c => by
 show ((c.isW _, c.tok.tx), (c.at M).nmC _) = ((c.isW _, c.tok.tx), (c.nmC _).at M)
 rw [nmC_at]; rfl)
end
end Go.Proofs.YtcebeajjpcbgcaaGreat.cu
namespace Go.Proofs.YtcebeajjpcbgcaaGreat.cu
open dt (Dt Kp RowAt Ow Grow)
theorem dl_eq : dlt (pk bEq) = 0 := by decide
theorem dl_bang : dlt (pk bBang) = 0 := by decide
section
variable {M b : Nat}
end
end Go.Proofs.YtcebeajjpcbgcaaGreat.cu
namespace Go.Proofs.YtcebeajjpcbgcaaGreat.cu
open dt (Dt)
open mem (decF decZ putB scB Byt posT enB)
open lx (toks chs cln tksG tkG)
theorem posT_up (l : List Int) : ∀ (k j : Nat), j < k → (posT l j).1 < (posT l k).1 ∨ ((posT l j).1 = (posT l k).1 ∧ (posT l j).2 < (posT l k).2)
 | 0, j, h => by omega
 | k + 1, j, h => by
  simp only [posT]
  by_cases e : j = k
  ·subst e
   cases enB l j
   ·right; simp; omega
   ·left; simp; omega
  ·have := posT_up l k j (by omega)
   cases enB l k
   ·simp; omega
   ·left; simp; omega
theorem posT_inj (l : List Int) {j k : Nat} (h : posT l j = posT l k) : j = k := by
 rcases Nat.lt_trichotomy j k with h1 | h1 | h1
 ·have := posT_up l k j h1; rw [h] at this; omega
 ·exact h1
 ·have := posT_up l j k h1; rw [h] at this; omega
theorem tks_fr (l : List Int) (cl : Bool) : ∀ (q i : Nat) (t : Tk), i ≤ l.length → (tksG l cl i)[q]? = some t → i ≤ t.fr ∧ (t.ln, t.co) = posT l t.fr
 | 0, i, t, hi, h => by
  have h0 : (tksG l cl i)[0]? = some (tkG l cl i) := by
   by_cases he : (tkG l cl i).k = 0 ∨ (tkG l cl i).k = 1
   ·rw [lx.tksG_end he]; rfl
   ·rw [lx.tksG_go hi he]; rfl
  rw [h0] at h
  obtain rfl := Option.some.inj h
  exact ⟨(lx.ign_le l false i).1, rfl⟩
 | q + 1, i, t, hi, h => by
  have hle := lx.tkG_le l cl i hi
  by_cases he : (tkG l cl i).k = 0 ∨ (tkG l cl i).k = 1
  ·rw [lx.tksG_end he] at h; simp at h
  ·rw [lx.tksG_go hi he] at h
   have := tks_fr l cl q _ t hle.2.1 (by simpa using h)
   have hit : i < (tkG l cl i).to := by rcases hle.2.2 with h | h | h; exact absurd (.inl h) he; exact absurd (.inr h) he; exact h
   exact ⟨by omega, this.2⟩
theorem tks_fr_lt (l : List Int) (cl : Bool) : ∀ (q m i : Nat) (t u : Tk), i ≤ l.length → q < m → (tksG l cl i)[q]? = some t → (tksG l cl i)[m]? = some u → t.fr < u.fr
 | q, 0, i, t, u, hi, hqm, h, h' => by omega
 | q, m + 1, i, t, u, hi, hqm, h, h' => by
  have hle := lx.tkG_le l cl i hi
  by_cases he : (tkG l cl i).k = 0 ∨ (tkG l cl i).k = 1
  ·rw [lx.tksG_end he] at h'; simp at h'
  ·have hgo := lx.tksG_go hi he
   rw [hgo] at h h'
   cases q with
   | zero =>
    simp at h
    subst h
    have h2 := tks_fr l cl m _ u hle.2.1 (by simpa using h')
    have hr := lx.rdG_le l cl (lx.ign l false i) ((lx.ign_le l false i).2 hi)
    have : (tkG l cl i).fr < (tkG l cl i).to := by
     rcases hr.2.2 with h | h | h
     ·exact absurd (.inl h) he
     ·exact absurd (.inr h) he
     ·exact h
    omega
   | succ q => exact tks_fr_lt l cl q m _ t u hle.2.1 (by omega) (by simpa using h) (by simpa using h')
theorem toks_at (z : List Int) {q m : Nat} {t u : Tk} (h : (toks z)[q]? = some t) (h' : (toks z)[m]? = some u) (e : t.ln = u.ln ∧ t.co = u.co) : q = m := by
 have h1 := (tks_fr _ _ q 0 t (Nat.zero_le _) h).2
 have h2 := (tks_fr _ _ m 0 u (Nat.zero_le _) h').2
 have h3 : t.fr = u.fr := posT_inj (chs z) (by rw [← h1, ← h2, e.1, e.2])
 rcases Nat.lt_trichotomy q m with h4 | h4 | h4
 ·have := tks_fr_lt _ _ q m 0 t u (Nat.zero_le _) h4 h h'; omega
 ·exact h4
 ·have := tks_fr_lt _ _ m q 0 u t (Nat.zero_le _) h4 h' h; omega
end Go.Proofs.YtcebeajjpcbgcaaGreat.cu
namespace Go.Proofs.YtcebeajjpcbgcaaGreat.cu
open dt (Dt Kp RowAt Ow Grow)
theorem unm_faults {T : TypR} {b : Nat} (hF : Faults T b) : Faults (unm T) (b + 1) := by
 intro c hc hb hn
 unfold unm at hn ⊢
 by_cases hp : c.isP bLb = true
 ·rw [if_pos hp] at hn ⊢
  by_cases hB : c.opB bLb = true
  ·rw [if_pos hB] at hn ⊢
   have ho := opn_stp hc bLb
   have hx := opn_ix hB
   cases hq : (T (c.opn bLb)).1 with
   | none => exact hF _ ho.ok (by rw [ho.ts, hx]; omega) hq
   | some it =>
    rw [hq] at hn
    dsimp only at hn ⊢
    by_cases hr : (T (c.opn bLb)).2.isP bRb = true
    ·rw [if_pos hr] at hn; cases hn
    ·rw [if_neg hr]
     show ((T (c.opn bLb)).2.cls bRb).kd ≠ 0
     unfold Cu.cls
     rw [if_neg hr]
     exact stop_kd _ _ (by decide)
  ·rw [if_neg hB]
   exact opn_kd (by simpa using hB)
 ·rw [if_neg hp] at hn ⊢
  by_cases hN : c.isN = true
  ·rw [if_pos hN] at hn; cases hn
  ·rw [if_neg hN]
   exact name_kd (by simpa using hN)
theorem typF_faults : ∀ f, Faults (typF f) f
 | 0 => fun c hc hb hn => by have := hc.lt; omega
 | f + 1 => fun c hc hb hn => by
  have hu := unm_faults (typF_faults f) c hc hb
  change (typ (unm (typF f)) c).1 = none at hn
  show (typ (unm (typF f)) c).2.kd ≠ 0
  unfold typ at hn ⊢
  cases hq : (unm (typF f) c).1 with
  | none => exact hu hq
  | some r =>
   rw [hq] at hn
   dsimp only at hn
   split at hn <;> cases hn
section
variable {M b : Nat}
theorem unmI_at {T : TypR} {u : Cu} : unmI T u = (match (T u).1 with | none => (none, (T u).2) | some it => (cond ((T u).2.isP bRb) (some (it.1, it.2 ++ bRb)) none, (T u).2.cls bRb)) := by
 unfold unmI
 show (match (T u).1 with | none => ret none | some it => bnd (clsR bRb) fun cl => ret (cond cl (some (it.1, it.2 ++ bRb)) none)) (T u).2 = _
 cases (T u).1 <;> rfl
theorem cls_no {c : Cu} {p : ByteArray} (h : ¬ c.isP p = true) : (c.cls p).kd ≠ 0 := by
 unfold Cu.cls
 rw [if_neg h]
 exact stop_kd _ _ (by decide)
theorem unmO_3 {T : TypR} (hF : Faults T b) (h : Ok3 M T b) : Ok3 M (bnd (opnR bLb) fun o => cond o (unmI T) (ret none)) (b + 1) := by
 have eq : ∀ c : Cu, (bnd (opnR bLb) fun o => cond o (unmI T) (ret none)) c = cond (c.opB bLb) (unmI T) (ret none) (c.opn bLb) := fun c => rfl
 have sU : St (unmI T) := unmI_st h.st
 refine ⟨(opnR_st bLb).bnd fun o => ite_st sU (ret_st _), fun c hc => ?_, fun c hc hb hi h0 hk => ?_, fun c hc hb hi h0 hk hw => ?_⟩
 ·rw [eq]
  have hB : c.opB bLb = false := by unfold Cu.opB; rw [isP_dead hc]; rfl
  rw [hB]
  show c.opn bLb = c
  unfold Cu.opn
  rw [isP_dead hc]
  exact stop_dead _ _ hc
 ·rw [eq] at hk ⊢
  have ho := opn_stp hc bLb
  by_cases hB : c.opB bLb = true
  ·rw [hB] at hk ⊢
   simp only [cond_true] at hk ⊢
   rw [unmI_at] at hk ⊢
   obtain ⟨h1, h2, h3⟩ := opn_yes hB
   have hI := opn_inv dl_lb hB hi
   have hkd : (c.opn bLb).kd = 0 := by rw [h3]; exact h0
   have hop : (c.opn bLb).op = c.op + 1 := by rw [h3]
   have hix := opn_ix hB
   have hb' : (c.opn bLb).ts.length ≤ b + (c.opn bLb).ix := by rw [ho.ts, hix]; omega
   cases hq : (T (c.opn bLb)).1 with
   | none => rw [hq] at hk; exact absurd hk (hF _ ho.ok hb' hq)
   | some it =>
    rw [hq] at hk
    dsimp only at hk ⊢
    by_cases hr : (T (c.opn bLb)).2.isP bRb = true
    ·rw [cls_yes hr] at hk ⊢
     obtain ⟨o1, i1⟩ := h.bal _ ho.ok hb' hI hkd hk
     refine ⟨by show (T (c.opn bLb)).2.op - 1 = c.op; omega, ?_⟩
     show (((T (c.opn bLb)).2.op - 1 : Nat) : Int) = dpt (T (c.opn bLb)).2.ts ((T (c.opn bLb)).2.ix + 1)
     rw [dpt_tok, dlt_isP hr, dl_rb]
     have hi' : ((T (c.opn bLb)).2.op : Int) = dpt (T (c.opn bLb)).2.ts (T (c.opn bLb)).2.ix := i1
     omega
    ·exact absurd hk (cls_no hr)
  ·have hB' : c.opB bLb = false := by simpa using hB
   rw [hB'] at hk
   exact absurd hk (opn_kd hB')
 ·rw [eq] at hk
  rw [eq, eq]
  have ho := opn_stp hc bLb
  by_cases hB : c.opB bLb = true
  ·rw [hB] at hk ⊢
   simp only [cond_true] at hk ⊢
   have sF := sU _ ho.ok
   rw [unmI_at] at hk
   obtain ⟨h1, h2, h3⟩ := opn_yes hB
   have hI := opn_inv dl_lb hB hi
   have hkd : (c.opn bLb).kd = 0 := by rw [h3]; exact h0
   have hop : (c.opn bLb).op = c.op + 1 := by rw [h3]
   have hix := opn_ix hB
   have hb' : (c.opn bLb).ts.length ≤ b + (c.opn bLb).ix := by rw [ho.ts, hix]; omega
   rcases opn_dep dl_lb hB h0 hi hw with ⟨l1, b1, e1⟩ | ⟨b1, d1⟩
   ·rw [b1, e1]
    simp only [cond_true]
    rw [unmI_at, unmI_at] at *
    cases hq : (T (c.opn bLb)).1 with
    | none => rw [hq] at hk; exact absurd hk (hF _ ho.ok hb' hq)
    | some it =>
     rw [hq] at hk sF
     dsimp only at hk sF ⊢
     by_cases hr : (T (c.opn bLb)).2.isP bRb = true
     ·have hk2 : (T (c.opn bLb)).2.kd = 0 := by rw [cls_yes hr] at hk; exact hk
      have sT := h.st _ ho.ok
      rcases h.dep _ ho.ok hb' hI hkd hk2 (by rw [ho.ts, hix]; exact l1) with ⟨l2, e2⟩ | d2
      ·rw [e2, hq]
       dsimp only
       have hr' : ((T (c.opn bLb)).2.at M).isP bRb = true := hr
       rw [cls_yes hr, cls_yes hr', hr, hr']
       left
       rw [ho.ts] at l2
       refine ⟨l2.succ ?_, rfl⟩
       have : dpt c.ts ((T (c.opn bLb)).2.ix + 1) = dpt c.ts (T (c.opn bLb)).2.ix + -1 := by
        have e := dpt_tok (T (c.opn bLb)).2
        rw [dlt_isP hr, dl_rb, sT.ts, ho.ts] at e
        exact e
       rw [this]
       have := l2.top
       omega
      ·right
       have hdd := d2.dead
       have := sF.ix
       have s3 := cls_stp sT.ok bRb
       cases hx : (T ((c.opn bLb).at M)).1 with
       | none => exact (d2.to s3.ix).of ho
       | some it' =>
        dsimp only
        have : (T ((c.opn bLb).at M)).2.cls bRb = (T ((c.opn bLb).at M)).2 := by unfold Cu.cls; rw [isP_dead hdd]; exact stop_dead _ _ hdd
        rw [this]
        exact (d2.to s3.ix).of ho
     ·exact absurd hk (cls_no hr)
   ·rw [b1]
    simp only [cond_false]
    exact .inr (d1 _ (by have := sF.ix; omega))
  ·have hB' : c.opB bLb = false := by simpa using hB
   rw [hB'] at hk
   exact absurd hk (opn_kd hB')
theorem unm_3 {T : TypR} (hF : Faults T b) (h : Ok3 M T b) : Ok3 M (unm T) (b + 1) := by
 rw [unm_eq]
 exact (isPR_3 _).bnd fun q => cond_3 (unmO_3 hF h) (nR_3.bnd fun n => ret_3 _)
theorem typF_3 : ∀ f, Ok3 M (typF f) f
 | 0 => ⟨typF_st 0, fun c hc => rfl, fun c hc hb => by have := hc.lt; omega, fun c hc hb => by have := hc.lt; omega⟩
 | f + 1 => by
  show Ok3 M (typ (unm (typF f))) (f + 1)
  rw [typ_eq]
  exact (unm_3 (typF_faults f) (typF_3 f)).bnd fun r => by
   cases r with
   | none => exact ret_3 _
   | some r => exact (punctR_3 _ dl_bang).bnd fun q => ret_3 _
theorem varQ_faults {f : Nat} {L : LitR} (hG : Goes L) (hF : Faults L b) : Faults (varQ (typF f) L) b := by
 intro c hc hb hn
 have h1 := varC3_stp hc
 have h2 := (typF_goes f _ h1.ok).1
 have h3 := varU_stp hG h2.ok
 have h13 := (h1.trans h2).trans h3
 have hd := dirs_faults hG hF _ h3.ok (by rw [h13.ts]; have := h13.ix; omega)
 simp only [varQ] at hn ⊢
 cases hq : (dirs L (varU L (typF f (varC3 c)).2)).1 with
 | none => exact hd hq
 | some ds => rw [hq] at hn; cases hn
end
end Go.Proofs.YtcebeajjpcbgcaaGreat.cu
namespace Go.Proofs.YtcebeajjpcbgcaaGreat.cu
open Go.ChangeShapes Go.WideShapes Go.ChangeAt Go.RowKit
open ints (hide unhide)
open dt (Dt Kp RowAt Ow Grow OwIn)
open mem (Row)
def EqV (pl : Bool) (f : Nat) (x y : Dt) : Prop := ∃ nm tn tw hd v v' ds ds' a b a' b', x = varD nm tn tw hd v ds a b ∧ y = varD nm tn tw hd v' ds' a' b' ∧ (pl = true → a = a' ∧ b = b') ∧ EqL pl f v v' ∧ EqLs (EqR pl f) ds ds'
def EqF (pl : Bool) (f g : Nat) (x y : Dt) : Prop := ∃ k nm on sh vs vs' ds ds' ss ss' a b a' b', x = defD k nm on sh vs ds ss a b ∧ y = defD k nm on sh vs' ds' ss' a' b' ∧ (pl = true → a = a' ∧ b = b') ∧ EqLs (EqV pl f) vs vs' ∧ EqLs (EqR pl f) ds ds' ∧ EqLs (EqS pl f g) ss ss'
theorem var_cells {w : World} {nm tn tw : ByteArray} {hd : Bool} {k : Int} {tx : ByteArray} {bl : Bool} {its fls : Dt} {ln co : Int} {ds : List Dt} {x y : Int} {cs : List Value} {F : List Nat} (h : Ow w (varD nm tn tw hd (litD k tx bl its fls ln co) ds x y) cs F) :
  ∃ ai ni ci af nf cf a2 c2 G, cs = [.string nm, .string tn, .string tw, .bool hd, .int .i64 k, .string tx, .bool bl, .slice ai ni ci, .slice af nf cf, .int .i64 ln, .int .i64 co, .slice a2 ds.length c2, .int .i64 x, .int .i64 y] ∧ (ds.length ≤ c2 ∧ c2 ≤ maxLen) ∧ Ow w (litD k tx bl its fls ln co) [.int .i64 k, .string tx, .bool bl, .slice ai ni ci, .slice af nf cf, .int .i64 ln, .int .i64 co] G ∧ (∀ b ∈ G, b ∈ F) ∧ Ls w 4 ds a2 F := by
 unfold varD litD at h
 simp only [app] at h
 unfold Ow at h
 obtain ⟨e0, rfl, _, h⟩ := h
 unfold Ow at h
 obtain ⟨e1, rfl, _, h⟩ := h
 unfold Ow at h
 obtain ⟨e2, rfl, _, h⟩ := h
 unfold Ow at h
 obtain ⟨e3, rfl, _, h⟩ := h
 unfold Ow at h
 obtain ⟨d1, rfl, a1, h⟩ := h
 unfold Ow at h
 obtain ⟨d2, rfl, a2, h⟩ := h
 unfold Ow at h
 obtain ⟨d3, rfl, a3, h⟩ := h
 unfold Ow at h
 obtain ⟨ai, ni, ci, d4, F1, F2, rfl, i1, i2, i3, i4, h, rfl⟩ := h
 unfold Ow at h
 obtain ⟨af, nf, cf, d5, F3, F4, rfl, j1, j2, j3, j4, h, rfl⟩ := h
 unfold Ow at h
 obtain ⟨d6, rfl, a6, h⟩ := h
 unfold Ow at h
 obtain ⟨d7, rfl, a7, h⟩ := h
 unfold Ow at h
 obtain ⟨aq, nq, cq, d8, F5, F6, rfl, k1, k2, k3, k4, h, rfl⟩ := h
 obtain ⟨rfl, hl⟩ := lst_ls k4
 unfold Ow at h
 obtain ⟨d9, rfl, a9, h⟩ := h
 unfold Ow at h
 obtain ⟨d10, rfl, a10, h⟩ := h
 unfold Ow at h
 obtain ⟨rfl, rfl⟩ := h
 refine ⟨ai, ni, ci, af, nf, cf, aq, cq, F1 ++ (F3 ++ []), rfl, ⟨k1, k2⟩, ?_, ?_, ?_⟩
 ·unfold litD Ow
  refine ⟨_, rfl, a1, ?_⟩
  unfold Ow
  refine ⟨_, rfl, a2, ?_⟩
  unfold Ow
  refine ⟨_, rfl, a3, ?_⟩
  unfold Ow
  refine ⟨ai, ni, ci, _, F1, F3 ++ [], rfl, i1, i2, i3, i4, ?_, rfl⟩
  unfold Ow
  refine ⟨af, nf, cf, _, F3, [], rfl, j1, j2, j3, j4, ?_, rfl⟩
  unfold Ow
  refine ⟨_, rfl, a6, ?_⟩
  unfold Ow
  refine ⟨_, rfl, a7, ?_⟩
  unfold Ow
  exact ⟨rfl, rfl⟩
 ·intro b hb
  simp at hb ⊢
  rcases hb with hb | hb
  ·exact .inl hb
  ·exact .inr (.inl hb)
 ·exact hl.mono (fun b hb => by simp [hb])
end Go.Proofs.YtcebeajjpcbgcaaGreat.cu
namespace Go.Proofs.YtcebeajjpcbgcaaGreat.cu
open dt (Dt Kp RowAt Ow Grow)
section
variable {pl : Bool} {m s e : Nat}
theorem Sf.finB {c c' : Cu} (h : Sf pl m s e c c') (hi : c.ix ≤ m) : c'.finB = c.finB := by
 have t := h.tok hi
 unfold Cu.finB
 rw [h.kd, t.1]
theorem Sf.fin {c c' : Cu} (h : Sf pl m s e c c') (hi : c.ix ≤ m) : Sf pl m s e c.fin c'.fin := by
 unfold Cu.fin
 rw [h.finB hi]
 split
 ·exact h
 ·exact h.stop 70
end
section
variable {pl : Bool} {m s e : Nat} {P : Prop} {b b' : Nat}
theorem wwR_4 (ws : List ByteArray) : Ok4 pl m s e P Eq (wwR ws) (wwR ws) b b' := ⟨wwR_3 ws, wwR_st ws, fun hp c c' hc hc' hs hb hb' hP hm => by
 have hi : c.ix ≤ m := Nat.le_trans (wwR_st ws c hc).ix hm
 refine ⟨(hs.isW hi ws).symm, ?_⟩
 show Sf pl m s e (c.nmC _) (c'.nmC _)
 rw [hs.isW hi ws]
 exact hs.nmC _⟩
theorem wordsR_4 : Ok4 pl m s e P Eq wordsR wordsR b b' := ⟨wordsR_3, wordsR_st, fun hp c c' hc hc' hs hb hb' hP hm => by
 have hi : c.ix ≤ m := Nat.le_trans (wordsR_st c hc).ix hm
 refine ⟨?_, ?_⟩
 ·show (c.isW _, c.tok.tx) = (c'.isW _, c'.tok.tx)
  rw [hs.isW hi, (hs.tok hi).2.1]
 ·show Sf pl m s e (c.nmC _) (c'.nmC _)
  rw [hs.isW hi]
  exact hs.nmC _⟩
end
end Go.Proofs.YtcebeajjpcbgcaaGreat.cu
namespace Go.Proofs.YtcebeajjpcbgcaaGreat.cu
open dt (Dt Kp RowAt Ow Grow)
section
variable {pl : Bool} {m s e : Nat} {P : Prop} {b b' : Nat} {f : Nat} {L L' : LitR}
theorem unmO_4 {T T' : TypR} (hF : Faults T b) (h : Ok4 pl m s e True Eq T T' b b') : Ok4 pl m s e P Eq (bnd (opnR bLb) fun o => cond o (unmI T) (ret none)) (bnd (opnR bLb) fun o => cond o (unmI T') (ret none)) (b + 1) (b' + 1) := by
 refine ⟨unmO_3 hF h.o, (opnR_st bLb).bnd fun o => ite_st (unmI_st h.st') (ret_st _), fun hp c c' hc hc' hs hb hb' hP hm => ?_⟩
 have eq : ∀ (T : TypR) (c : Cu), (bnd (opnR bLb) fun o => cond o (unmI T) (ret none)) c = cond (c.opB bLb) (unmI T) (ret none) (c.opn bLb) := fun T c => rfl
 have ho := opn_stp hc bLb
 have ho' := opn_stp hc' bLb
 have hst := (unmO_3 (M := 0) hF h.o).st c hc
 have hi : c.ix ≤ m := Nat.le_trans hst.ix hm
 unfold Ps at hP
 rw [eq] at hP hm
 rw [eq, eq, hs.opB hi]
 have eS := hs.opn hi bLb
 by_cases hB : c.opB bLb = true
 ·rw [hB] at hP hm ⊢
  simp only [cond_true] at hP hm ⊢
  rw [unmI_at] at hP hm
  rw [unmI_at, unmI_at]
  have x1 := opn_ix hB
  have x2 := opn_ix (show c'.opB bLb = true by rw [hs.opB hi]; exact hB)
  have hb1 : (c.opn bLb).ts.length ≤ b + (c.opn bLb).ix := by rw [ho.ts, x1]; omega
  have hb2 : (c'.opn bLb).ts.length ≤ b' + (c'.opn bLb).ix := by rw [ho'.ts, x2]; omega
  obtain ⟨q1, q2, q3⟩ := opn_yes hB
  have sT := h.o.st _ ho.ok
  cases hq : (T (c.opn bLb)).1 with
  | none =>
   rw [hq] at hP hm
   have hP1 : Ps e (c.opn bLb) T := by
    rcases hP with hP | ⟨h1, h2, h3⟩
    ·exact .inl hP
    ·exact absurd h3 (hF _ ho.ok hb1 hq)
   obtain ⟨e1, e2⟩ := h.near trivial _ _ ho.ok ho'.ok eS hb1 hb2 hP1 hm
   rw [← e1, hq]
   exact ⟨rfl, e2⟩
  | some it =>
   rw [hq] at hP hm
   dsimp only at hP hm
   have hm1 : (T (c.opn bLb)).2.ix ≤ m := Nat.le_trans (cls_stp sT.ok bRb).ix hm
   have hk0 : e = 0 ∨ (T (c.opn bLb)).2.kd = 0 := by
    rcases hP with hP | ⟨h1, h2, h3⟩
    ·exact .inl hP
    ·refine .inr (Classical.byContradiction fun x => ?_)
     have : (T (c.opn bLb)).2.cls bRb = (T (c.opn bLb)).2 := by unfold Cu.cls; rw [isP_dead x]; exact stop_dead _ _ x
     rw [this] at h3
     exact x h3
   have hP1 : Ps e (c.opn bLb) T := by
    rcases hP with hP | ⟨h1, h2, h3⟩
    ·exact .inl hP
    ·rcases hk0 with hk0 | hk0
     ·exact .inl hk0
     ·exact .inr ⟨opn_inv dl_lb hB h1, by rw [q3]; exact h2, hk0⟩
   obtain ⟨e1, e2⟩ := h.near trivial _ _ ho.ok ho'.ok eS hb1 hb2 hP1 hm1
   rw [← e1, hq]
   dsimp only
   rw [e2.isP hm1]
   refine ⟨rfl, e2.cls hm1 bRb ?_⟩
   rcases hP1 with hP1 | ⟨h1, h2, h3⟩
   ·exact .inl hP1
   ·obtain ⟨o1, i1⟩ := h.o.bal _ ho.ok hb1 h1 h2 h3
    right
    rw [o1, q3]
    exact Nat.succ_le_succ (Nat.zero_le _)
 ·have hB' : c.opB bLb = false := by simpa using hB
  rw [hB']
  exact ⟨rfl, eS⟩
theorem unm_4 {T T' : TypR} (hF : Faults T b) (h : Ok4 pl m s e True Eq T T' b b') : Ok4 pl m s e P Eq (unm T) (unm T') (b + 1) (b' + 1) := by
 rw [unm_eq, unm_eq]
 exact (isPR_4 _).bnd fun q q' => cond_4 (fun hp => hp.2) (unmO_4 hF h) (nR_4.bnd fun n n' => ret_4 fun hp => by rw [hp.2])
theorem typF_4 : ∀ (f f' : Nat), Ok4 pl m s e True Eq (typF f) (typF f') f f'
 | 0, f' => ⟨typF_3 0, typF_st f', fun hp c c' hc hc' hs hb => by have := hc.lt; omega⟩
 | f + 1, 0 => ⟨typF_3 (f + 1), typF_st 0, fun hp c c' hc hc' hs hb hb' => by have := hc'.lt; omega⟩
 | f + 1, f' + 1 => by
  show Ok4 pl m s e True Eq (typ (unm (typF f))) (typ (unm (typF f'))) (f + 1) (f' + 1)
  rw [typ_eq, typ_eq]
  refine (unm_4 (typF_faults f) (typF_4 f f')).bnd fun r r' => ?_
  have h1 : ∀ (P' : Prop) (r : ByteArray × ByteArray), Ok4 pl m s e P' Eq (bnd (punctR bBang) fun q => ret (some (cond q (r.1, r.2 ++ bBang) r))) (bnd (punctR bBang) fun q => ret (some (cond q (r.1, r.2 ++ bBang) r))) (f + 1) (f' + 1) := fun P' r => (punctR_4 _ dl_bang).bnd fun q q' => ret_4 fun hp => by rw [hp.2]
  cases r with
  | none =>
   cases r' with
   | none => exact ret_4 fun _ => rfl
   | some r' => exact ⟨ret_3 _, (h1 True r').st', fun hp => by cases hp.2⟩
  | some r =>
   cases r' with
   | none => exact ⟨(h1 True r).o, ret_st _, fun hp => by cases hp.2⟩
   | some r' =>
    refine ⟨(h1 True r).o, (h1 True r').st', fun hp => ?_⟩
    obtain rfl := Option.some.inj hp.2
    exact (h1 True r).near trivial
end
end Go.Proofs.YtcebeajjpcbgcaaGreat.cu
namespace Go.Proofs.YtcebeajjpcbgcaaGreat.cu
open dt (Dt Kp RowAt Ow Grow)
open lx (toks chs cln tksG tkG)
section
variable {pl : Bool} {m s e : Nat} {P : Prop} {b b' : Nat} {f : Nat} {L L' K K' : LitR}
theorem OD.getD {R : Dt → Dt → Prop} {a b : Option Dt} {z z' : Dt} (h : OD R a b) (hz : R z z') : R (a.getD z) (b.getD z') := by
 cases a <;> cases b
 ·exact hz
 ·exact h.elim
 ·exact h.elim
 ·exact h
theorem varQ_4 {T T' : TypR} (hf : 0 < f) (hT : Ok4 pl m s e True Eq T T' b b') (hG : Goes L) (hG' : Goes L') (hF : Faults L b) (h : Ok4 pl m s e True (OD (EqL pl f)) L L' b b') : Ok4 pl m s e P (OD (EqV pl f)) (varQ T L) (varQ T' L') b b' := by
 rw [varQ_eq, varQ_eq]
 have hz : EqL pl f zeroD zeroD := by
  obtain ⟨f', rfl⟩ : ∃ f', f = f' + 1 := ⟨f - 1, by omega⟩
  exact leaf_eq f' fun _ => ⟨rfl, rfl⟩
 exact Ok4.tb fun t t' => (wantR_4 _ dl_dol).bnd fun _ _ => nmR_4.bnd fun n n' => (wantR_4 _ dl_col).bnd fun _ _ => hT.wk.bnd fun ty ty' => (punctR_4 _ dl_eq).bnd fun q q' => (cond_4 (V := OD (EqL pl f)) (fun hp => hp.2) h.wk (ret_4 (a := none) (x := none) fun _ => trivial)).bnd fun v v' => (dirs_4 hG hG' hF h).bnd fun d d' => ret_4 fun hp => hp.2.map fun x y hxy => by
  obtain ⟨⟨⟨⟨⟨⟨⟨⟨_, ht⟩, _⟩, rfl⟩, _⟩, rfl⟩, rfl⟩, hv⟩, _⟩ := hp
  refine ⟨n, _, _, q, _, _, x, y, _, _, _, _, rfl, rfl, ht.2.2.2, ?_, hxy⟩
  cases q
  ·exact hz
  ·exact hv.getD hz
theorem varsS_4 {g g' : Nat} (hf : 0 < f) (hT : Ok4 pl m s e True Eq (typF g) (typF g') b b') (hG : Goes K) (hG' : Goes K') (hF : Faults K b) (h : Ok4 pl m s e True (OD (EqL pl f)) K K' b b') : Ok4 pl m s e P (OL (EqV pl f)) (varsS (typF g) K) (varsS (typF g') K') b b' := by
 rw [varsS_eq, varsS_eq]
 exact (isPR_4 _).bnd fun q q' => cond_4 (fun hp => hp.2) ((brk_4 (varQ_goes hG) (varQ_goes hG') (varQ_faults hG hF) (varQ_4 hf hT hG hG' hF h) dl_lp dl_rp 1).mono (Nat.le_succ _) (Nat.le_succ _)) (ret_4 fun _ => EqLs.nil)
theorem bodyS_4 {g : Nat} {S S' : LstR} (hG : Goes L) (hG' : Goes L') (hF : Faults L b) (h : Ok4 pl m s e True (OD (EqL pl f)) L L' b b') (hS : Ok4 pl m s e True (OL (EqS pl f g)) S S' b b') (k : Int) {nm nm' on on' : ByteArray} {vs vs' : List Dt} {t t' : Tk} (hn : P → nm = nm' ∧ on = on' ∧ EqLs (EqV pl f) vs vs' ∧ EqT pl t t') : Ok4 pl m s e P (OD (EqF pl f g)) (bodyS L S k nm on vs t) (bodyS L' S' k nm' on' vs' t') b b' := by
 rw [bodyS_eq, bodyS_eq]
 exact (dirs_4 hG hG' hF h).bnd fun d d' => hS.wk.bnd fun r r' => ret_4 fun hp => hp.2.map fun x y hxy => by
  obtain ⟨rfl, rfl, hv, ht⟩ := hn hp.1.1
  exact ⟨k, nm, on, false, vs, vs', _, _, x, y, _, _, _, _, rfl, rfl, ht.2.2.2, hv, hp.1.2.getD, hxy⟩
theorem operS_4 {g g' j : Nat} {S S' : LstR} (hf : 0 < f) (hT : Ok4 pl m s e True Eq (typF g) (typF g') b b') (kG : Goes K) (kG' : Goes K') (kF : Faults K b) (hK : Ok4 pl m s e True (OD (EqL pl f)) K K' b b') (hG : Goes L) (hG' : Goes L') (hF : Faults L b) (h : Ok4 pl m s e True (OD (EqL pl f)) L L' b b') (hS : Ok4 pl m s e True (OL (EqS pl f j)) S S' b b') (k : Int) {t t' : Tk} (ht : P → EqT pl t t') : Ok4 pl m s e P (OD (EqF pl f j)) (operS (typF g) K L S k t) (operS (typF g') K' L' S' k t') b b' := by
 rw [operS_eq, operS_eq]
 exact Ok4.tb fun u u' => (cond_4 (V := Eq) (fun hp => by rw [hp.2.1]) nmR_4 (ret_4 fun _ => rfl)).bnd fun n n' => (varsS_4 hf hT kG kG' kF hK).bnd fun v v' => bodyS_4 hG hG' hF h hS k fun hp => ⟨hp.1.2, rfl, hp.2.getD, ht hp.1.1.1⟩
theorem fragS_4 {j : Nat} {S S' : LstR} (hG : Goes L) (hG' : Goes L') (hF : Faults L b) (h : Ok4 pl m s e True (OD (EqL pl f)) L L' b b') (hS : Ok4 pl m s e True (OL (EqS pl f j)) S S' b b') {t t' : Tk} (ht : P → EqT pl t t') : Ok4 pl m s e P (OD (EqF pl f j)) (fragS L S t) (fragS L' S' t') b b' := by
 rw [fragS_eq, fragS_eq]
 exact (butR_4 _).bnd fun n n' => (wwR_4 _).bnd fun _ _ => nmR_4.bnd fun on on' => bodyS_4 hG hG' hF h hS 4 fun hp => ⟨hp.1.1.2, hp.2, EqLs.nil, ht hp.1.1.1⟩
theorem kind_4 {A X : Type} {V : Option A → Option X → Prop} {x x' : ByteArray} {E : Int → Cu → Option A × Cu} {F : Cu → Option A × Cu} {E' : Int → Cu → Option X × Cu} {F' : Cu → Option X × Cu} (hx : P → x = x') (h : ∀ k, Ok4 pl m s e P V (E k) (E' k) b b') (k : Ok4 pl m s e P V F F' b b') : Ok4 pl m s e P V (match kindS x with | some k => E k | none => F) (match kindS x' with | some k => E' k | none => F') b b' := by
 refine ⟨by cases kindS x; exact k.o; exact (h _).o, by cases kindS x'; exact k.st'; exact (h _).st', fun hp => ?_⟩
 obtain rfl := hx hp
 cases kindS x
 ·exact k.near hp
 ·exact (h _).near hp
theorem defS_4 {g g' j : Nat} {S S' : LstR} (hf : 0 < f) (hT : Ok4 pl m s e True Eq (typF g) (typF g') b b') (kG : Goes K) (kG' : Goes K') (kF : Faults K b) (hK : Ok4 pl m s e True (OD (EqL pl f)) K K' b b') (hG : Goes L) (hG' : Goes L') (hF : Faults L b) (h : Ok4 pl m s e True (OD (EqL pl f)) L L' b b') (hS : Ok4 pl m s e True (OL (EqS pl f j)) S S' b b') : Ok4 pl m s e P (OD (EqF pl f j)) (defS (typF g) K L S) (defS (typF g') K' L' S') b b' := by
 rw [defS_eq, defS_eq]
 refine Ok4.tb fun t t' => (isPR_4 _).bnd fun q q' => cond_4 (fun hp => hp.2) (hS.wk.bnd fun r r' => ret_4 fun hp => hp.2.map fun x y hxy => ?_) (wordsR_4.bnd fun u u' => cond_4 (fun hp => by rw [hp.2]) (kind_4 (fun hp => by rw [hp.2]) (fun k => operS_4 hf hT kG kG' kF hK hG hG' hF h hS k fun hp => hp.1.1.2) (fragS_4 hG hG' hF h hS fun hp => hp.1.1.2)) (ret_4 fun _ => trivial))
 exact ⟨1, em, em, true, [], [], [], [], x, y, _, _, _, _, rfl, rfl, hp.1.1.2.2.2.2, EqLs.nil, EqLs.nil, hxy⟩
theorem defN_4 {N : Nat} (hN : 0 < N) (N' : Nat) : Ok4 pl m s e P (OD (EqF pl N N)) (defN N) (defN N') N N' :=
 defS_4 hN (typF_4 N N') (litF_goes true N) (litF_goes true N') (litF_faults true N) (litF_4 true N N') (litF_goes false N) (litF_goes false N') (litF_faults false N) (litF_4 false N N') (selsF_4 (litF_goes false N) (litF_goes false N') (litF_faults false N) (litF_4 false N N') N N' (Nat.le_refl _) (Nat.le_refl _))
theorem defsF_4 {R : Dt → Dt → Prop} {D D' : LitR} (hG : Goes D) (hG' : Goes D') (h : Ok4 pl m s 0 True (OD R) D D' b b') (q : List Dt) : ∀ (g g' : Nat) (l l' : List Dt) (c c' : Cu), c.Ok → c'.Ok → Sf pl m s 0 c c' → c.ts.length ≤ b + c.ix → c'.ts.length ≤ b' + c'.ix → c.ts.length ≤ g + c.ix → c'.ts.length ≤ g' + c'.ix → EqLs R l l' → (q = [] ∨ l ≠ [] ∨ c.tok.k ≠ 0) → (defsF D g l c).2.ix ≤ m → ((∃ r r', (defsF D g l c).1 = some r ∧ (defsF D' g' (q ++ l') c').1 = some (q ++ r') ∧ EqLs R r r') ∨ ((defsF D g l c).1 = none ∧ (defsF D' g' (q ++ l') c').1 = none)) ∧ Sf pl m s 0 (defsF D g l c).2 (defsF D' g' (q ++ l') c').2
 | 0, g', l, l', c, c', hc, hc', hs, hb, hb', hg, hg', hl, hq, hm => by have := hc.lt; omega
 | g + 1, 0, l, l', c, c', hc, hc', hs, hb, hb', hg, hg', hl, hq, hm => by have := hc'.lt; omega
 | g + 1, g' + 1, l, l', c, c', hc, hc', hs, hb, hb', hg, hg', hl, hq, hm => by
  have hi : c.ix ≤ m := Nat.le_trans (defsF_stp hG (g + 1) l c hc).ix hm
  simp only [defsF] at hm ⊢
  have ht := hs.tok hi
  have hcond : (l.length = 0 ∨ c.tok.k ≠ 0) ↔ ((q ++ l').length = 0 ∨ c'.tok.k ≠ 0) := by
   rw [ht.1, List.length_append, ← hl.1]
   constructor
   ·rintro (x | x)
    ·rcases hq with hq | hq | hq
     ·left; rw [hq, x]; rfl
     ·exact absurd (List.length_eq_zero_iff.1 x) hq
     ·exact .inr hq
    ·exact .inr x
   ·rintro (x | x)
    ·left; omega
    ·exact .inr x
  by_cases hx : l.length = 0 ∨ c.tok.k ≠ 0
  ·rw [if_pos hx] at hm
   rw [if_pos hx, if_pos (hcond.1 hx)]
   have hgo := hG c hc
   have hgo' := hG' c' hc'
   have hm1 : (D c).2.ix ≤ m := by
    cases he : (D c).1 with
    | none => rw [he] at hm; exact hm
    | some d => rw [he] at hm; exact Nat.le_trans (defsF_stp hG g _ _ hgo.1.ok).ix hm
   obtain ⟨e1, e2⟩ := h.near trivial c c' hc hc' hs hb hb' (.inl rfl) hm1
   cases he : (D c).1 with
   | none =>
    rw [he] at e1
    rw [e1.none]
    exact ⟨.inr ⟨rfl, rfl⟩, e2⟩
   | some d =>
    rw [he] at e1 hm
    obtain ⟨d', he', hR⟩ := e1.some
    rw [he']
    have i1 := hgo.2 (by rw [he]; rfl)
    have i2 := hgo'.2 (by rw [he']; rfl)
    have ih := defsF_4 hG hG' h q g g' (l ++ [d]) (l' ++ [d']) _ _ hgo.1.ok hgo'.1.ok e2 (by rw [hgo.1.ts]; omega) (by rw [hgo'.1.ts]; omega) (by rw [hgo.1.ts]; omega) (by rw [hgo'.1.ts]; omega) (hl.snoc hR) (.inr (.inl (by simp))) hm
    dsimp only
    rw [List.append_assoc]
    exact ih
  ·rw [if_neg hx, if_neg (fun y => hx (hcond.2 y))]
   refine ⟨?_, hs.fin hi⟩
   dsimp only
   rw [hs.finB hi]
   cases c.finB
   ·exact .inr ⟨rfl, rfl⟩
   ·exact .inl ⟨l, l', rfl, rfl, hl⟩
theorem docS_4 (c c' : Cu) (hc : c.Ok) (hc' : c'.Ok) (hs : Sf pl m s 0 c c') (h0 : c.ix = 0) (hm : (docS c).2.ix ≤ m) : ((∃ r r', (docS c).1 = some r ∧ (docS c').1 = some r' ∧ EqLs (EqF pl c.ts.length c.ts.length) r r') ∨ ((docS c).1 = none ∧ (docS c').1 = none)) ∧ Sf pl m s 0 (docS c).2 (docS c').2 := by
 have hl := hc.lt
 exact defsF_4 (defN_goes _) (defN_goes _) (defN_4 (by omega) _) [] _ _ [] [] c c' hc hc' hs (by omega) (by omega) (by omega) (by omega) EqLs.nil (.inl rfl) hm
end
end Go.Proofs.YtcebeajjpcbgcaaGreat.cu
namespace Go.Proofs.YtcebeajjpcbgcaaGreat.cu
open dt (Dt Kp RowAt Ow Grow)
open mem (decF decZ putB scB Byt posT enB)
open lx (toks chs cln tksG tkG shT cAt ign rdG)
def kindZ : Nat → List Int
 | 0 => [32]
 | 1 => [10]
 | 2 => [44]
 | 3 => [13, 10]
 | 4 => [32, 35, 120, 10]
 | 5 => [9]
 | _ => [65279]
def sepC (c : Int) : Prop := c = 10 ∨ c = -1 ∨ c = 123 ∨ c = 125 ∨ c = 32 ∨ c = 9 ∨ c = 13 ∨ c = 44 ∨ c = 65279
theorem at0 (a : Int) (r : List Int) : cAt (a :: r) 0 = a := rfl
theorem at_cons (a : Int) (r : List Int) (i : Nat) : cAt (a :: r) (i + 1) = cAt r i := by
 have := (lx.Shf.of [a] r).at i
 rw [show [a].length + i = i + 1 by simp; omega] at this
 exact this
structure Gap (G : List Int) : Prop where
 pass : ∀ R, ign (G ++ R) false 0 = G.length + ign R false 0
 ne : ∃ c r, G = c :: r ∧ sepC c
 sc : G.all scB = true
theorem ign_step (c : Int) (R : List Int) (h : lx.blB c = true) : ign (c :: R) false 0 = 1 + ign R false 0 := by
 rw [lx.ign_f, at0, if_pos h]
 exact lx.ign_shf (lx.Shf.of [c] R) false 0
theorem gap_one {c : Int} (h : lx.blB c = true) (hs : sepC c) (hc : scB c = true) : Gap [c] := ⟨fun R => ign_step c R h, ⟨c, [], rfl, hs⟩, by simp [hc]⟩
theorem Gap.app {G H : List Int} (g : Gap G) (h : Gap H) : Gap (G ++ H) := by
 refine ⟨fun R => ?_, ?_, by rw [List.all_append, g.sc, h.sc]; rfl⟩
 ·rw [List.append_assoc, g.pass, h.pass, List.length_append]
  omega
 ·obtain ⟨c, r, rfl, hs⟩ := g.ne
  exact ⟨c, r ++ H, rfl, hs⟩
theorem gap_kind (k : Nat) : Gap (kindZ k) := by
 match k with
 | 0 => exact gap_one (by decide) (by unfold sepC; omega) (by decide)
 | 1 => exact gap_one (by decide) (by unfold sepC; omega) (by decide)
 | 2 => exact gap_one (by decide) (by unfold sepC; omega) (by decide)
 | 3 => exact Gap.app (G := [13]) (H := [10]) (gap_one (by decide) (by unfold sepC; omega) (by decide)) (gap_one (by decide) (by unfold sepC; omega) (by decide))
 | 4 =>
  refine ⟨fun R => ?_, ⟨32, [35, 120, 10], rfl, by unfold sepC; omega⟩, by decide⟩
  show ign (32 :: 35 :: 120 :: 10 :: R) false 0 = 4 + ign R false 0
  rw [ign_step 32 _ (by decide), lx.ign_f, at0]
  show 1 + ign (35 :: 120 :: 10 :: R) true (0 + 1) = _
  rw [lx.ign_t, at_cons, at0]
  show 1 + ign (35 :: 120 :: 10 :: R) true (0 + 1 + 1) = _
  rw [lx.ign_t, at_cons, at_cons, at0]
  show 1 + ign (35 :: 120 :: 10 :: R) false (0 + 1 + 1 + 1) = _
  have := lx.ign_shf (lx.Shf.of [35, 120, 10] R) false 0
  have e : ign (35 :: 120 :: 10 :: R) false (0 + 1 + 1 + 1) = 3 + ign R false 0 := this
  rw [e]
  omega
 | 5 => exact gap_one (by decide) (by unfold sepC; omega) (by decide)
 | n + 6 => exact gap_one (c := 65279) (by decide) (by unfold sepC; omega) (by decide)
def txZ (l : List Int) (t : Tk) : List Int := (l.take t.to).drop t.fr
def farZ (l : List Int) (gp : Nat → List Int) : Nat → List Tk → List Int
 | _, [] => []
 | j, t :: ts => gp j ++ (txZ l t ++ farZ l gp (j + 1) ts)
theorem first_sep {l : List Int} {gp : Nat → List Int} (hg : ∀ j, Gap (gp j)) (j : Nat) (ts : List Tk) : sepC (cAt (farZ l gp j ts) 0) := by
 cases ts with
 | nil => exact .inr (.inl rfl)
 | cons t ts =>
  obtain ⟨c, r, e, hs⟩ := (hg j).ne
  unfold farZ
  rw [e]
  exact hs
theorem rd_own {l : List Int} {i : Nat} (hi : i ≤ l.length) {cl cl' : Bool} (R : List Int) (hR : sepC (cAt R 0)) (h0 : (rdG l cl i).1 ≠ 0) (h1 : (rdG l cl i).1 ≠ 1) : rdG ((l.take (rdG l cl i).2.1).drop i ++ R) cl' 0 = ((rdG l cl i).1, (rdG l cl i).2.1 - i, (rdG l cl i).2.2) := by
 have hle := lx.rdG_le l cl i hi
 have hsh : lx.Shf (l.drop i) l i := ⟨by simp; omega, rfl⟩
 have hr := lx.rdG_shf hsh cl 0
 rw [Nat.add_zero] at hr
 obtain ⟨T, hT⟩ : ∃ T, T = (rdG l cl i).2.1 - i := ⟨_, rfl⟩
 have hTo : (rdG (l.drop i) cl 0).2.1 = T := by rw [hT, hr]; dsimp only; omega
 have hdl : (l.drop i).length = l.length - i := by simp
 have hX : (l.take (rdG l cl i).2.1).drop i = (l.drop i).take T := by rw [List.drop_take, hT]
 have hXl : ((l.drop i).take T).length = T := by rw [List.length_take, hdl]; omega
 have hk : (rdG (l.drop i) cl 0).1 = (rdG l cl i).1 := by rw [hr]
 have hv : (rdG (l.drop i) cl 0).2.2 = (rdG l cl i).2.2 := by rw [hr]
 have H : lx.Lox (l.drop i) ((l.drop i).take T ++ R) T := by
  refine ⟨?_, by rw [hdl]; omega, by rw [List.length_append, hXl]; omega, ?_⟩
  ·rw [List.take_append_of_le_length (by rw [hXl]; exact Nat.le_refl _), List.take_take, Nat.min_self]
  ·have e := (lx.Shf.of ((l.drop i).take T) R).at 0
   rw [hXl, Nat.add_zero] at e
   rw [e]
   exact hR
 have hlx := lx.rdG_lox H (cl := cl) (cl' := cl') (F := 0) (Nat.zero_le _) (by rw [hk]; exact h0) (by rw [hk]; exact h1) (by rw [hTo]; exact Nat.le_refl _)
 rw [hX, hlx, ← hT]
 have : rdG (l.drop i) cl 0 = ((rdG (l.drop i) cl 0).1, (rdG (l.drop i) cl 0).2.1, (rdG (l.drop i) cl 0).2.2) := rfl
 rw [this, hk, hTo, hv]
end Go.Proofs.YtcebeajjpcbgcaaGreat.cu
namespace Go.Proofs.YtcebeajjpcbgcaaGreat.cu
open dt (Dt Kp RowAt Ow Grow)
open mem (decF decZ putB scB Byt posT enB)
open lx (toks chs cln tksG tkG shT cAt ign rdG)
theorem rd_first {l : List Int} {cl : Bool} {i : Nat} (h0 : (rdG l cl i).1 ≠ 0) (h1 : (rdG l cl i).1 ≠ 1) : lx.blB (cAt l i) = false ∧ cAt l i ≠ 35 := by
 have key : ∀ c : Int, c = 9 ∨ c = 10 ∨ c = 13 ∨ c = 32 ∨ c = 44 ∨ c = 65279 ∨ c = 35 → cAt l i = c → False := by
  intro c hc e
  apply h1
  unfold rdG at h0 ⊢
  by_cases hz : i = l.length ∧ cl = true
  ·rw [if_pos hz] at h0; exact absurd rfl h0
  ·rw [if_neg hz, e]
   have ht : lx.tq l i = false := by
    unfold lx.tq
    rw [e]
    exact decide_eq_false fun x => by omega
   rw [ht]
   rcases hc with rfl | rfl | rfl | rfl | rfl | rfl | rfl <;> rfl
 refine ⟨?_, fun e => key 35 (by omega) e⟩
 cases hb : lx.blB (cAt l i) with
 | false => rfl
 | true =>
  exfalso
  have := of_decide_eq_true hb
  exact key (cAt l i) (by omega) rfl
theorem tksG_k0 {l : List Int} (g : List Int) (hg : Gap g) : tksG g true 0 = [tkG g true 0] ∧ (tkG g true 0).k = 0 ∧ (tkG g true 0).tx = mem.encS [] ∧ (tkG g true 0).va = lx.E0 := by
 have hp := hg.pass []
 rw [List.append_nil] at hp
 have he : ign ([] : List Int) false 0 = 0 := by decide
 rw [he, Nat.add_zero] at hp
 have hr : rdG g true (ign g false 0) = (0, g.length, lx.E0) := by
  rw [hp]
  unfold rdG
  rw [if_pos ⟨rfl, rfl⟩]
 have hk : (tkG g true 0).k = 0 := by show (rdG g true (ign g false 0)).1 = 0; rw [hr]
 refine ⟨lx.tksG_end (.inl hk), hk, ?_, ?_⟩
 ·show mem.encS ((g.take (rdG g true (ign g false 0)).2.1).drop (ign g false 0)) = _
  rw [hr, hp]
  congr 1
  simp
 ·show (rdG g true (ign g false 0)).2.2 = _
  rw [hr]
theorem far_toks {l : List Int} {gp : Nat → List Int} (hg : ∀ j, Gap (gp j)) : ∀ (ts : List Tk) (i j : Nat), i ≤ l.length → tksG l true i = ts → (∀ t ∈ ts, t.k ≠ 1) → (tksG (farZ l gp j ts) true 0).length = ts.length ∧ ∀ (q : Nat) t, ts[q]? = some t → ∃ t', (tksG (farZ l gp j ts) true 0)[q]? = some t' ∧ EqT false t t'
 | [], i, j, hi, h, hb => by
  exfalso
  by_cases he : (tkG l true i).k = 0 ∨ (tkG l true i).k = 1
  ·rw [lx.tksG_end he] at h; cases h
  ·rw [lx.tksG_go hi he] at h; cases h
 | t :: ts, i, j, hi, h, hb => by
  have hle := lx.tkG_le l true i hi
  have hF := (lx.ign_le l false i).2 hi
  by_cases he : (tkG l true i).k = 0 ∨ (tkG l true i).k = 1
  ·rw [lx.tksG_end he] at h
   obtain ⟨h1, h2⟩ : tkG l true i = t ∧ [] = ts := by simpa using h
   subst h2
   have hk : t.k = 0 := by
    rw [← h1]
    rcases he with e | e
    ·exact e
    ·exact absurd (h1 ▸ e) (hb t (List.mem_cons_self ..))
   have hz := lx.rdG_zero hF (by rw [← h1] at hk; exact hk)
   have hrd : rdG l true (ign l false i) = (0, ign l false i, lx.E0) := by unfold rdG; rw [if_pos hz]
   have htx : txZ l t = [] := by
    rw [← h1]
    show (l.take (rdG l true (ign l false i)).2.1).drop (ign l false i) = []
    rw [hrd]
    simp
   have hfz : farZ l gp j [t] = gp j := by
    show gp j ++ (txZ l t ++ []) = gp j
    rw [htx]
    simp
   obtain ⟨q1, q2, q3, q4⟩ := tksG_k0 (l := l) (gp j) (hg j)
   rw [hfz, q1]
   refine ⟨rfl, fun q u hu => ?_⟩
   cases q with
   | succ q => simp at hu
   | zero =>
    simp at hu
    subst hu
    refine ⟨_, rfl, q2.trans hk.symm, ?_, ?_, fun e => by cases e⟩
    ·rw [q3, ← h1]
     show mem.encS [] = mem.encS ((l.take (rdG l true (ign l false i)).2.1).drop (ign l false i))
     rw [hrd]
     congr 1
     simp
    ·rw [q4, ← h1]
     show lx.E0 = (rdG l true (ign l false i)).2.2
     rw [hrd]
  ·have e0 : (rdG l true (ign l false i)).1 ≠ 0 := fun e => he (.inl e)
   have e1 : (rdG l true (ign l false i)).1 ≠ 1 := fun e => he (.inr e)
   rw [lx.tksG_go hi he] at h
   obtain ⟨h1, h2⟩ : tkG l true i = t ∧ tksG l true (tkG l true i).to = ts := by simpa using h
   have ih := far_toks hg ts (tkG l true i).to (j + 1) hle.2.1 h2 (fun u hu => hb u (List.mem_cons_of_mem _ hu))
   obtain ⟨F2, hF2⟩ : ∃ F2, F2 = farZ l gp (j + 1) ts := ⟨_, rfl⟩
   have hsep := first_sep (l := l) hg (j + 1) ts
   rw [← hF2] at ih hsep
   obtain ⟨X, hX⟩ : ∃ X, X = (l.take (rdG l true (ign l false i)).2.1).drop (ign l false i) := ⟨_, rfl⟩
   have hfz : farZ l gp j (t :: ts) = gp j ++ (X ++ F2) := by
    show gp j ++ (txZ l t ++ farZ l gp (j + 1) ts) = _
    rw [← hF2, hX, ← h1]
    rfl
   have hrl := lx.rdG_le l true (ign l false i) hF
   have hlt : ign l false i < (rdG l true (ign l false i)).2.1 := by rcases hrl.2.2 with e | e | e; exact absurd e e0; exact absurd e e1; exact e
   obtain ⟨T, hT⟩ : ∃ T, T = (rdG l true (ign l false i)).2.1 - ign l false i := ⟨_, rfl⟩
   have hXl : X.length = T := by rw [hX, List.length_drop, List.length_take, hT]; omega
   have hro : rdG (X ++ F2) true 0 = ((rdG l true (ign l false i)).1, T, (rdG l true (ign l false i)).2.2) := by
    have := rd_own (cl' := true) hF F2 hsep e0 e1
    rw [← hX, ← hT] at this
    exact this
   have hfst := rd_first (l := X ++ F2) (cl := true) (i := 0) (by rw [hro]; exact e0) (by rw [hro]; exact e1)
   have hig : ign (X ++ F2) false 0 = 0 := by rw [lx.ign_f, hfst.1, if_neg (by decide), if_neg hfst.2]
   have hp := (hg j).pass (X ++ F2)
   rw [hig, Nat.add_zero] at hp
   have hsh := lx.rdG_shf (lx.Shf.of (gp j) (X ++ F2)) true 0
   rw [Nat.add_zero, hro] at hsh
   dsimp only at hsh
   obtain ⟨f, hf⟩ : ∃ f, f = gp j ++ (X ++ F2) := ⟨_, rfl⟩
   rw [hfz, ← hf]
   rw [← hf] at hp hsh
   have hk : (tkG f true 0).k = t.k := by
    show (rdG f true (ign f false 0)).1 = t.k
    rw [hp, hsh, ← h1]
    rfl
   have hto : (tkG f true 0).to = (gp j).length + T := by
    show (rdG f true (ign f false 0)).2.1 = _
    rw [hp, hsh]
   have hva : (tkG f true 0).va = t.va := by
    show (rdG f true (ign f false 0)).2.2 = t.va
    rw [hp, hsh, ← h1]
    rfl
   have htx : (tkG f true 0).tx = t.tx := by
    show mem.encS ((f.take (rdG f true (ign f false 0)).2.1).drop (ign f false 0)) = t.tx
    rw [hp, hsh, ← h1]
    show mem.encS ((f.take ((gp j).length + T)).drop (gp j).length) = mem.encS ((l.take (rdG l true (ign l false i)).2.1).drop (ign l false i))
    rw [← hX, List.drop_take, hf]
    congr 1
    rw [List.drop_left, show (gp j).length + T - (gp j).length = T by omega, List.take_append_of_le_length (by omega), List.take_of_length_le (by omega)]
   have hnk : ¬ ((tkG f true 0).k = 0 ∨ (tkG f true 0).k = 1) := by rw [hk, ← h1]; exact he
   have hgo := lx.tksG_go (l := f) (cl := true) (i := 0) (Nat.zero_le _) hnk
   have hSf : lx.Shf F2 f ((gp j).length + T) := by
    have := lx.Shf.of (gp j ++ X) F2
    rw [List.length_append, hXl, List.append_assoc, ← hf] at this
    exact this
   have hsG := lx.tksG_shf hSf true (i := 0) (Nat.zero_le _)
   rw [Nat.add_zero] at hsG
   rw [hto, hsG] at hgo
   rw [hgo]
   refine ⟨by simp [ih.1], fun q u hu => ?_⟩
   cases q with
   | zero =>
    simp at hu
    subst hu
    exact ⟨_, rfl, hk, htx, hva, fun e => by cases e⟩
   | succ q =>
    rw [List.getElem?_cons_succ] at hu
    obtain ⟨t', y1, y2⟩ := ih.2 q u hu
    refine ⟨shT f ((gp j).length + T) t', ?_, y2.1, y2.2.1, y2.2.2.1, fun e => by cases e⟩
    rw [List.getElem?_cons_succ, List.getElem?_map, y1]
    rfl
theorem doc_alike (z z' : List Int) (d : Int) (hl : (toks z').length = (toks z).length) (h : ∀ (q : Nat) t, (toks z)[q]? = some t → ∃ t', (toks z')[q]? = some t' ∧ EqT false t t') :
  ((∃ r r' f, (docG z d).1 = some r ∧ (docG z' d).1 = some r' ∧ EqLs (EqF false f f) r r') ∨ ((docG z d).1 = none ∧ (docG z' d).1 = none)) ∧ (docG z' d).2.kd = (docG z d).2.kd ∧ (docG z' d).2.ix = (docG z d).2.ix := by
 have hok := newG_ok' z d
 have hst : Stp (newG z d) (docG z d).2 := defsF_stp (defN_goes _) _ _ _ hok
 have hs : Sf false (docG z d).2.ix 0 0 (newG z d) (newG z' d) := ⟨rfl, rfl, rfl, rfl, fun i hi => by
  have hlt := hst.ok.lt
  rw [hst.ts] at hlt
  have hlt2 : i < (toks z).length := Nat.lt_of_le_of_lt hi hlt
  obtain ⟨t', h1, h2⟩ := h i _ (List.getElem?_eq_getElem hlt2)
  show EqT false ((toks z).getD i Tk.zero) ((toks z').getD (i + 0) Tk.zero)
  rw [Nat.add_zero, List.getD_eq_getElem?_getD, List.getD_eq_getElem?_getD, h1, List.getElem?_eq_getElem hlt2]
  exact h2⟩
 obtain ⟨h1, h2⟩ := docS_4 (newG z d) (newG z' d) hok (newG_ok' z' d) hs rfl (Nat.le_refl _)
 refine ⟨?_, h2.kd, h2.ix⟩
 rcases h1 with ⟨r, r', a, b, c⟩ | h1
 ·exact .inl ⟨r, r', _, a, b, c⟩
 ·exact .inr h1
end Go.Proofs.YtcebeajjpcbgcaaGreat.cu
namespace Go.Proofs.YtcebeajjpcbgcaaGreat.cu
open Go.ChangeShapes Go.WideShapes Go.ChangeAt Go.RowKit
open ints (hide unhide)
open dt (Dt Kp RowAt Ow Grow OwIn)
open mem (Row)
open lx (toks chs cln)
theorem infoTk9 : (Tryz.prog.info? 30).map (·.size) = some 7 := by kernel_rfl
set_option maxHeartbeats 2000000 in
set_option maxRecDepth 4000 in
theorem tokenAt_ok (p n cap : Nat) (ts : List Tk) (m : Nat) (t : Tk) (w : World) (hn : ts.length = n) (hn2 : n ≤ 4294967296) (hp : p < w.heap.size) (hrows : ∀ i u, ts[i]? = some u → RowAt w p (i * 7) u.cells) (hm : ts[m]? = some t) (hun : ∀ q u, ts[q]? = some u → u.ln = t.ln ∧ u.co = t.co → q = m) :
  Calls Tryz.prog 11 #[.slice (some ⟨p, 0, none⟩) n cap, .agg #[.int .i64 t.ln, .int .i64 t.co]] w fun e w' => e = .returned (.tuple #[.agg t.cells.toArray, .int .i64 m]) ∧ Below w.heap.size w w' := by
 have hml : m < ts.length := (List.getElem?_eq_some_iff.1 hm).1
 go_enter Tryz.func11, Tryz.ntmps11
 go_wp2_with fail
 obtain ⟨w0, hw0⟩ : ∃ w0, w0 = (w.alloc (.cells #[.int .i64 t.ln, .int .i64 t.co] 28)).alloc (.cells #[.int .i64 0, .int .i64 0, .int .i64 0, .int .i64 0, .int .i64 0, .string ⟨#[]⟩, .string ⟨#[]⟩] 30) := ⟨_, rfl⟩
 have b0 : Below w.heap.size w w0 := by rw [hw0]; exact two_alloc _ _ _
 have hat := (show w0.heap[w.heap.size]? = _ ∧ w0.heap[w.heap.size + 1]? = _ from by rw [hw0]; exact two_at _ _ _ _ _)
 have z0 : w.heap.size + 2 ≤ w0.heap.size := by rw [hw0]; simp
 have hR0 := hide (fun i u hu => (hrows i u hu).below b0)
 rw [← hw0]
 clear hw0 hrows
 go_loopw [10] (fun i wr => ∃ k : Nat, k ≤ m ∧ i = .int .i64 k ∧ Below w0.heap.size w0 wr) (fun i _ => m + 1 - (intOf i).toNat)
 case atStart => exact ⟨0, Nat.zero_le _, rfl, Below.refl _ _⟩
 case round =>
  obtain ⟨k, hk, rfl, hb⟩ := hrel
  have ki : (k : Int) < (n : Int) := by omega
  have hkl : k < ts.length := by omega
  have hget := List.getElem?_eq_getElem hkl
  obtain ⟨u, hu⟩ : ∃ u, u = ts[k] := ⟨_, rfl⟩
  rw [← hu] at hget
  clear hu
  have hrow7 := (unhide hR0) k u hget
  unfold Tk.cells at hrow7
  have hc := fun (q : Nat) (v : Value) hv => (hb.cell (p := ⟨p, k * 7 + q, none⟩) (show p < w0.heap.size by omega)).trans (hrow7 q v hv)
  have m0 : wr.cell? ⟨p, k * 7, none⟩ = some (.int .i64 u.k) := hc 0 _ rfl
  have m1 : wr.cell? ⟨p, k * 7 + 1, none⟩ = some (.int .i64 u.ln) := hc 1 _ rfl
  have m2 : wr.cell? ⟨p, k * 7 + 2, none⟩ = some (.int .i64 u.co) := hc 2 _ rfl
  have m3 : wr.cell? ⟨p, k * 7 + 3, none⟩ = some (.int .i64 u.fr) := hc 3 _ rfl
  have m4 : wr.cell? ⟨p, k * 7 + 4, none⟩ = some (.int .i64 u.to) := hc 4 _ rfl
  have m5 : wr.cell? ⟨p, k * 7 + 5, none⟩ = some (.string u.tx) := hc 5 _ rfl
  have m6 : wr.cell? ⟨p, k * 7 + 6, none⟩ = some (.string u.va) := hc 6 _ rfl
  have hA := (hb.block w.heap.size (by omega)).trans hat.1
  have hRr := (hb.block (w.heap.size + 1) (by omega)).trans hat.2
  have hwr := hb.size
  have bN := fun o => show Below wr.heap.size wr (wr.alloc o) from (Below.refl _ _).alloc (Nat.le_refl _) _
  have x0 : ∀ o, (wr.alloc o).cell? ⟨w.heap.size, 0, none⟩ = some (.int .i64 t.ln) := fun o => (dt.cell_cells (((bN o).block _ (by omega)).trans hA) 0).trans rfl
  have x1 : ∀ o, (wr.alloc o).cell? ⟨w.heap.size, 1, none⟩ = some (.int .i64 t.co) := fun o => (dt.cell_cells (((bN o).block _ (by omega)).trans hA) 1).trans rfl
  have HT := hide (fun o => show (wr.alloc o).there (w.heap.size + 1) 0 7 from dt.there_cells (((bN o).block _ (by omega)).trans hRr) (by decide))
  have HBN := hide (fun o => hb.trans ((bN o).mono hb.size))
  clear hc hrow7 hA hRr bN
  by_cases hkm : k = m
  ·subst hkm
   rw [hm] at hget
   obtain rfl := Option.some.inj hget
   clear hget hun hm hR0
   go_wp2_with (first
    | refine wpList_store_mid (by rfl) 30 _ _ (by rfl) (w.heap.size + 1) 0 t.cells.toArray (by rfl) (by rfl) ((unhide HT) _) infoTk9 (dt.one_cells (cs := t.cells) (by rfl)) ?_)
   refine bodyPost_ret (rgn.result_row_tmp rfl _ _ (w.heap.size + 1) 0 t.cells _ rfl (World.rangeAt_setCells_same _ _ _ _ ((unhide HT) _)) Tryz.underlying30 rfl infoTk9) rfl ?_
   exact ⟨rfl, dt.below_setCells _ _ _ _ (b0.trans (((unhide HBN) _).mono b0.size)) (Nat.le_succ _)⟩
  ·have hne : ¬ (u.ln = t.ln ∧ u.co = t.co) := fun e => hkm (hun k u hget e)
   have HN := hide hne
   clear hne
   obtain ⟨uk, ul, uo, uf, ug, ux, uv⟩ := u
   obtain ⟨tk, tl, to', tf, tg, tx, tv⟩ := t
   simp only at m0 m1 m2 m3 m4 m5 m6 x0 x1
   have hnn : ¬ (ul = tl ∧ uo = to') := unhide HN
   by_cases hl : ul = tl
   ·subst hl
    have ho : ¬ uo = to' := fun e => hnn ⟨rfl, e⟩
    clear hnn
    go_wp2_with fail
    go_roundw
    case rel => exact ⟨k + 1, by omega, by go_num, (unhide HBN) _⟩
    case measure => simp only [intOf]; omega
   ·clear hnn
    go_wp2_with fail
    go_roundw
    case rel => exact ⟨k + 1, by omega, by go_num, (unhide HBN) _⟩
    case measure => simp only [intOf]; omega
end Go.Proofs.YtcebeajjpcbgcaaGreat.cu
namespace Go.Proofs.YtcebeajjpcbgcaaGreat.cu
open Go.ChangeShapes Go.WideShapes Go.ChangeAt Go.RowKit
open ints (hide unhide)
open mem (Row)
open lx (toks chs cln)
theorem bytesZ_app9 (a b : ByteArray) : mem.bytesZ (a ++ b) = mem.bytesZ a ++ mem.bytesZ b := by simp [mem.bytesZ]
theorem flat_byt9 : ∀ zs : List Int, zs.all mem.scB = true → mem.Byt (zs.flatMap mem.putB)
 | [], _ => by intro x hx; cases hx
 | c :: zs, h => by
  rw [List.all_cons, Bool.and_eq_true] at h
  intro x hx
  rw [List.flatMap_cons] at hx
  rcases List.mem_append.1 hx with h1 | h1
  ·exact mem.putB_byt ((mem.scB_iff c).1 h.1) x h1
  ·exact flat_byt9 zs h.2 x h1
end Go.Proofs.YtcebeajjpcbgcaaGreat.cu
namespace Go.Proofs.YtcebeajjpcbgcaaGreat.cu
open dt (Dt Kp RowAt Ow Grow)
open mem (decF decZ putB scB Byt posT enB)
open lx (toks chs cln tksG tkG shT cAt ign rdG)
def ksB : Nat → ByteArray
 | 0 => ⟨#[32]⟩
 | 1 => ⟨#[10]⟩
 | 2 => ⟨#[44]⟩
 | 3 => ⟨#[13, 10]⟩
 | 4 => ⟨#[32, 35, 120, 10]⟩
 | 5 => ⟨#[9]⟩
 | _ => ⟨#[239, 187, 191]⟩
theorem ksB_z (k : Nat) : mem.bytesZ (ksB k) = (kindZ k).flatMap putB ∧ (ksB k).size ≤ 4 := by
 match k with
 | 0 => exact ⟨by decide, by decide⟩
 | 1 => exact ⟨by decide, by decide⟩
 | 2 => exact ⟨by decide, by decide⟩
 | 3 => exact ⟨by decide, by decide⟩
 | 4 => exact ⟨by decide, by decide⟩
 | 5 => exact ⟨by decide, by decide⟩
 | n + 6 => exact ⟨(by decide : mem.bytesZ ⟨#[239, 187, 191]⟩ = [65279].flatMap putB), (by decide : (⟨#[239, 187, 191]⟩ : ByteArray).size ≤ 4)⟩
def gB (gz : List Int) (k : Nat) : ByteArray := if k < gz.length then ksB (gz.getD k 0 % 7).toNat ++ ksB (gz.getD k 0 / 16 % 7).toNat else ⟨#[32]⟩
def gpZ (gz : List Int) (k : Nat) : List Int := if k < gz.length then kindZ (gz.getD k 0 % 7).toNat ++ kindZ (gz.getD k 0 / 16 % 7).toNat else [32]
theorem gap_gp (gz : List Int) (k : Nat) : Gap (gpZ gz k) := by
 unfold gpZ
 split
 ·exact (gap_kind _).app (gap_kind _)
 ·exact gap_kind 0
theorem gB_z (gz : List Int) (k : Nat) : mem.bytesZ (gB gz k) = (gpZ gz k).flatMap putB ∧ (gB gz k).size ≤ 8 := by
 unfold gB gpZ
 split
 ·rw [bytesZ_app9, List.flatMap_append, (ksB_z _).1, (ksB_z _).1, size_app]
  exact ⟨rfl, Nat.add_le_add (ksB_z _).2 (ksB_z _).2⟩
 ·exact ⟨by decide, by decide⟩
def farB (gz : List Int) (ts : List Tk) : Nat → ByteArray
 | 0 => ⟨#[]⟩
 | k + 1 => farB gz ts k ++ (gB gz k ++ (ts.getD k Tk.zero).tx)
theorem tx_bytes {l : List Int} (hl : l.all scB = true) {cl : Bool} {i : Nat} : mem.bytesZ (tkG l cl i).tx = (txZ l (tkG l cl i)).flatMap putB := by
 have ha : (txZ l (tkG l cl i)).all scB = true := by
  rw [List.all_eq_true] at hl ⊢
  intro x hx
  exact hl x (List.mem_of_mem_take (List.mem_of_mem_drop hx))
 show mem.bytesZ (mem.encS (txZ l (tkG l cl i))) = _
 rw [mem.encS_yes ha]
 exact mem.bytesZ_str _ (flat_byt9 _ ha)
theorem tx_all {l : List Int} (hl : l.all scB = true) (cl : Bool) : ∀ (q i : Nat) (t : Tk), i ≤ l.length → (tksG l cl i)[q]? = some t → mem.bytesZ t.tx = (txZ l t).flatMap putB
 | 0, i, t, hi, h => by
  have h0 : (tksG l cl i)[0]? = some (tkG l cl i) := by
   by_cases he : (tkG l cl i).k = 0 ∨ (tkG l cl i).k = 1
   ·rw [lx.tksG_end he]; rfl
   ·rw [lx.tksG_go hi he]; rfl
  rw [h0] at h
  obtain rfl := Option.some.inj h
  exact tx_bytes hl
 | q + 1, i, t, hi, h => by
  have hle := lx.tkG_le l cl i hi
  by_cases he : (tkG l cl i).k = 0 ∨ (tkG l cl i).k = 1
  ·rw [lx.tksG_end he] at h; simp at h
  ·rw [lx.tksG_go hi he] at h
   exact tx_all hl cl q _ t hle.2.1 (by simpa using h)
theorem far_bytes {l : List Int} {gz : List Int} {ts : List Tk} (h : ∀ (q : Nat) t, ts[q]? = some t → mem.bytesZ t.tx = (txZ l t).flatMap putB) : ∀ k, k ≤ ts.length → mem.bytesZ (farB gz ts k) ++ (farZ l (gpZ gz) k (ts.drop k)).flatMap putB = (farZ l (gpZ gz) 0 ts).flatMap putB
 | 0, _ => by
  rw [List.drop_zero]
  rfl
 | k + 1, hk => by
  have ih := far_bytes (gz := gz) h k (by omega)
  have hd : ts.drop k = ts[k] :: ts.drop (k + 1) := List.drop_eq_getElem_cons (by omega)
  have hg := List.getElem?_eq_getElem (l := ts) (i := k) (by omega)
  have ht := h k _ hg
  have hgd : ts.getD k Tk.zero = ts[k] := by rw [List.getD_eq_getElem?_getD, hg]; rfl
  rw [← ih, hd]
  show mem.bytesZ (farB gz ts k ++ (gB gz k ++ (ts.getD k Tk.zero).tx)) ++ _ = mem.bytesZ (farB gz ts k) ++ (gpZ gz k ++ (txZ l ts[k] ++ farZ l (gpZ gz) (k + 1) (ts.drop (k + 1)))).flatMap putB
  rw [bytesZ_app9, bytesZ_app9, hgd, ht, (gB_z gz k).1, List.flatMap_append, List.flatMap_append]
  simp
theorem flat_drop_le (l : List Int) {a b : Nat} (h : a ≤ b) : ((l.drop b).flatMap putB).length ≤ ((l.drop a).flatMap putB).length := by
 have e : l.drop a = (l.drop a).take (b - a) ++ l.drop b := by
  have := List.take_append_drop (b - a) (l.drop a)
  rw [List.drop_drop, show a + (b - a) = b by omega] at this
  exact this.symm
 rw [e, List.flatMap_append, List.length_append]
 omega
theorem far_len {l : List Int} {gz : List Int} : ∀ (ts : List Tk) (i j : Nat), i ≤ l.length → tksG l true i = ts → ((farZ l (gpZ gz) j ts).flatMap putB).length ≤ 8 * ts.length + ((l.drop i).flatMap putB).length
 | [], i, j, hi, h => by simp [farZ]
 | t :: ts, i, j, hi, h => by
  have hle := lx.tkG_le l true i hi
  have hF := lx.ign_le l false i
  have hg : ((gpZ gz j).flatMap putB).length ≤ 8 := by rw [← (gB_z gz j).1, mem.bytesZ_len]; exact (gB_z gz j).2
  have ht : t = tkG l true i := by
   by_cases he : (tkG l true i).k = 0 ∨ (tkG l true i).k = 1
   ·rw [lx.tksG_end he] at h; simp at h; exact h.1.symm
   ·rw [lx.tksG_go hi he] at h; simp at h; exact h.1.symm
  have hfr : i ≤ t.fr := by rw [ht]; exact hF.1
  have hft : t.fr ≤ t.to := by rw [ht]; exact (lx.rdG_le l true (ign l false i) (hF.2 hi)).1
  have hX : ((txZ l t).flatMap putB).length + ((l.drop t.to).flatMap putB).length ≤ ((l.drop i).flatMap putB).length := by
   have e : l.drop t.fr = txZ l t ++ l.drop t.to := by
    unfold txZ
    rw [List.drop_take]
    have := List.take_append_drop (t.to - t.fr) (l.drop t.fr)
    rw [List.drop_drop, show t.fr + (t.to - t.fr) = t.to by omega] at this
    exact this.symm
   have h2 := flat_drop_le l hfr
   rw [e, List.flatMap_append, List.length_append] at h2
   exact h2
  have hrec : ((farZ l (gpZ gz) (j + 1) ts).flatMap putB).length ≤ 8 * ts.length + ((l.drop t.to).flatMap putB).length := by
   by_cases he : (tkG l true i).k = 0 ∨ (tkG l true i).k = 1
   ·rw [lx.tksG_end he] at h
    have : ts = [] := by simp at h; exact h.2
    rw [this]
    simp [farZ]
   ·rw [lx.tksG_go hi he] at h
    have h2 : tksG l true (tkG l true i).to = ts := by simp at h; exact h.2
    rw [ht]
    exact far_len ts _ (j + 1) hle.2.1 h2
  show ((gpZ gz j ++ (txZ l t ++ farZ l (gpZ gz) (j + 1) ts)).flatMap putB).length ≤ _
  rw [List.flatMap_append, List.flatMap_append, List.length_append, List.length_append, List.length_cons]
  omega
theorem far_sc {l : List Int} (hl : l.all scB = true) {gz : List Int} : ∀ (ts : List Tk) (j : Nat), (farZ l (gpZ gz) j ts).all scB = true
 | [], j => rfl
 | t :: ts, j => by
  show (gpZ gz j ++ (txZ l t ++ farZ l (gpZ gz) (j + 1) ts)).all scB = true
  have hx : (txZ l t).all scB = true := by
   rw [List.all_eq_true] at hl ⊢
   exact fun x hx => hl x (List.mem_of_mem_take (List.mem_of_mem_drop hx))
  rw [List.all_append, List.all_append, (gap_gp gz j).sc, hx, far_sc hl ts (j + 1)]
  rfl
theorem farB_up (gz : List Int) (ts : List Tk) : ∀ k m, k ≤ m → (farB gz ts k).size ≤ (farB gz ts m).size
 | k, 0, h => by
  obtain rfl : k = 0 := by omega
  exact Nat.le_refl _
 | k, m + 1, h => by
  rcases Nat.lt_or_ge m k with g | g
  ·obtain rfl : k = m + 1 := by omega
   exact Nat.le_refl _
  ·have := farB_up gz ts k m g
   show _ ≤ (farB gz ts m ++ _).size
   rw [size_app]
   omega
theorem far_all (z : List Int) (hz : Byt z) (gz : List Int) {u : Tk} (hu : (toks z)[(toks z).length - 1]? = some u) (hk : u.k = 0) :
  (toks (mem.bytesZ (farB gz (toks z) (toks z).length))).length = (toks z).length ∧ (∀ (q : Nat) t, (toks z)[q]? = some t → ∃ t', (toks (mem.bytesZ (farB gz (toks z) (toks z).length)))[q]? = some t' ∧ EqT false t t') ∧ (farB gz (toks z) (toks z).length).size ≤ 8 * (toks z).length + z.length := by
 have hcl : cln z = true := tks_zero (chs z) (cln z) _ 0 u (Nat.zero_le _) hu hk
 obtain ⟨hfl, hsc⟩ := clean_flat hz hcl
 have htk : toks z = tksG (chs z) true 0 := by unfold toks; rw [hcl]
 have hpos : 0 < (toks z).length := by
  rcases Nat.eq_zero_or_pos (toks z).length with e | e
  ·rw [e, List.getElem?_eq_none (by omega)] at hu; cases hu
  ·exact e
 have hne : ∀ t ∈ toks z, t.k ≠ 1 := fun t ht e => by
  obtain ⟨q, hq, rfl⟩ := List.getElem_of_mem ht
  have hq' := List.getElem?_eq_getElem hq
  have h9 : (toks z).length = q + 1 := tks_last3 (chs z) (cln z) q 0 _ (Nat.zero_le _) hq' (.inr e)
  rw [show (toks z).length - 1 = q by omega, hq'] at hu
  have := Option.some.inj hu
  rw [this, hk] at e
  exact absurd e (by decide)
 have htx : ∀ (q : Nat) t, (toks z)[q]? = some t → mem.bytesZ t.tx = (txZ (chs z) t).flatMap putB := fun q t h => by
  rw [htk] at h
  exact tx_all hsc true q 0 t (Nat.zero_le _) h
 have hB := far_bytes (gz := gz) htx (toks z).length (Nat.le_refl _)
 rw [List.drop_length] at hB
 have hB' : mem.bytesZ (farB gz (toks z) (toks z).length) = (farZ (chs z) (gpZ gz) 0 (toks z)).flatMap putB := by
  rw [← hB]
  show _ = _ ++ []
  rw [List.append_nil]
 obtain ⟨q1, q2⟩ := chs_flat (far_sc hsc (gz := gz) (toks z) 0)
 have hT : toks (mem.bytesZ (farB gz (toks z) (toks z).length)) = tksG (farZ (chs z) (gpZ gz) 0 (toks z)) true 0 := by
  rw [hB']
  show tksG (chs _) (cln _) 0 = _
  rw [q1, q2]
 have hft := far_toks (l := chs z) (gp := gpZ gz) (gap_gp gz) (toks z) 0 0 (Nat.zero_le _) htk.symm hne
 rw [hT]
 refine ⟨hft.1, hft.2, ?_⟩
 have h1 := far_len (l := chs z) (gz := gz) (toks z) 0 0 (Nat.zero_le _) htk.symm
 rw [← hB', mem.bytesZ_len, List.drop_zero, ← hfl] at h1
 exact h1
end Go.Proofs.YtcebeajjpcbgcaaGreat.cu
namespace Go.Proofs.YtcebeajjpcbgcaaGreat.cu
open Go.ChangeShapes Go.WideShapes Go.ChangeAt Go.RowKit
open ints (hide unhide)
open dt (Dt Kp RowAt Ow Grow OwIn)
open mem (Row)
open lx (toks chs cln)
theorem doc_ls {w : World} {lo : Nat} {l : List Dt} {sl : Value} {G : List Nat} (h : Grow 53 9 w lo l sl G) : ∃ a c F, sl = .slice a l.length c ∧ Ls w 9 l a F ∧ (∀ b ∈ F, b < w.heap.size) ∧ l.length ≤ c ∧ c ≤ maxLen := by
 obtain ⟨a, n, c, F, rfl, hs⟩ := Sh.of h
 obtain ⟨h1, h2⟩ := lst_ls hs.at_
 have hn := hs.len
 subst hn
 exact ⟨a, c, F, rfl, h2, fun b hb => Nat.lt_of_lt_of_le (hs.rng b hb).2 hs.hi, hs.nc, hs.cm⟩
set_option maxHeartbeats 2000000 in
theorem sdoc_ok (pl : Bool) (l l' : List Dt) (h : SmLs 12 pl 9 l l') (w : World) (a a' : Option Addr) (c c' : Nat) (F G : List Nat) (hl : Ls w 9 l a F) (hl' : Ls w 9 l' a' G) (hF : ∀ b ∈ F, b < w.heap.size) (hG : ∀ b ∈ G, b < w.heap.size) (hc : l.length ≤ c) (hc' : l'.length ≤ c') (hm : c ≤ maxLen) (hm' : c' ≤ maxLen) :
  Calls Tryz.prog 10 #[.agg #[.slice a l.length c], .agg #[.slice a' l'.length c'], .bool pl] w fun e w' => e = .returned (.bool true) ∧ Below w.heap.size w w' := by
 have hC := hide (fun o o' => h ((w.alloc o).alloc o') a a' c c' F G (hl.below hF (two_alloc w o o')) (hl'.below hG (two_alloc w o o')) (fun b hb => Nat.lt_of_lt_of_le (hF b hb) (two_alloc w o o').size) (fun b hb => Nat.lt_of_lt_of_le (hG b hb) (two_alloc w o o').size) hc hc' hm hm')
 have HB := hide (fun o o' => two_alloc w o o')
 clear h hl hl' hF hG hc hc' hm hm'
 go_enter Tryz.func10, Tryz.ntmps10
 go_wp2_with fail
 refine ((unhide hC) _ _).mono ?_
 rintro e w1 ⟨rfl, b1⟩
 clear hC
 go_wp2_with fail
 go_ret
 exact ⟨rfl, ((unhide HB) _ _).trans (b1.mono ((unhide HB) _ _).size)⟩
end Go.Proofs.YtcebeajjpcbgcaaGreat.cu
