import Derived.Test.YtcebeajjpcbgcaaGreatQne13
import Derived.Lib.MinMax
set_option linter.unusedVariables false
set_option linter.unusedSimpArgs false
namespace Go.Proofs.YtcebeajjpcbgcaaGreat.cu
open dt (Dt Kp RowAt Ow Grow)
open mem (decF decZ putB scB Byt posT enB)
open lx (toks chs cln tksG tkG shT cAt ign rdG)
section
variable {ts : List Tk} {i op mo : Nat}
theorem isP_at {p : ByteArray} (hk : (ts.getD i Tk.zero).k = 2) (hx : (ts.getD i Tk.zero).tx = p) : (⟨ts, i, op, mo, 0⟩ : Cu).isP p = true := decide_eq_true ⟨rfl, hk, hx⟩
theorem notP_k {p : ByteArray} (hk : (ts.getD i Tk.zero).k ≠ 2) : (⟨ts, i, op, mo, 0⟩ : Cu).isP p = false := decide_eq_false fun x => hk x.2.1
theorem notP_x {p : ByteArray} (hk : (ts.getD i Tk.zero).tx ≠ p) : (⟨ts, i, op, mo, 0⟩ : Cu).isP p = false := decide_eq_false fun x => hk x.2.2
theorem isN_at (hk : (ts.getD i Tk.zero).k = 3) : (⟨ts, i, op, mo, 0⟩ : Cu).isN = true := decide_eq_true ⟨rfl, hk⟩
theorem name_at (hk : (ts.getD i Tk.zero).k = 3) : (⟨ts, i, op, mo, 0⟩ : Cu).name = ⟨ts, i + 1, op, mo, 0⟩ := by unfold Cu.name; rw [isN_at hk]; rfl
theorem nmS_at (hk : (ts.getD i Tk.zero).k = 3) : (⟨ts, i, op, mo, 0⟩ : Cu).nmS = (ts.getD i Tk.zero).tx := by unfold Cu.nmS; rw [isN_at hk]; rfl
theorem isW_at {ws : List ByteArray} (hk : (ts.getD i Tk.zero).k = 3) : (⟨ts, i, op, mo, 0⟩ : Cu).isW ws = inW ws (ts.getD i Tk.zero).tx := by unfold Cu.isW; rw [isN_at hk]; rfl
theorem opn_at {p : ByteArray} (hk : (ts.getD i Tk.zero).k = 2) (hx : (ts.getD i Tk.zero).tx = p) (hm : op < mo) : (⟨ts, i, op, mo, 0⟩ : Cu).opB p = true ∧ (⟨ts, i, op, mo, 0⟩ : Cu).opn p = ⟨ts, i + 1, op + 1, mo, 0⟩ := by
 have hp := isP_at (op := op) (mo := mo) hk hx
 refine ⟨?_, ?_⟩
 ·unfold Cu.opB
  rw [hp]
  exact decide_eq_true hm
 ·unfold Cu.opn
  rw [if_pos hp, if_pos hm]
theorem cls_at {p : ByteArray} (hk : (ts.getD i Tk.zero).k = 2) (hx : (ts.getD i Tk.zero).tx = p) : (⟨ts, i, op, mo, 0⟩ : Cu).cls p = ⟨ts, i + 1, op - 1, mo, 0⟩ := by
 unfold Cu.cls
 rw [if_pos (isP_at hk hx)]
theorem args_no (L : LitR) (hx : (ts.getD i Tk.zero).tx = bLc) : argsS L ⟨ts, i, op, mo, 0⟩ = (some [], ⟨ts, i, op, mo, 0⟩) := by
 unfold argsS
 rw [notP_x (by rw [hx]; decide)]
 rfl
theorem dirs_no (L : LitR) (hx : (ts.getD i Tk.zero).tx = bLc) (hl : i < ts.length) : dirs L ⟨ts, i, op, mo, 0⟩ = (some [], ⟨ts, i, op, mo, 0⟩) := by
 unfold dirs
 show dirsF L ts.length [] _ = _
 obtain ⟨g, hg⟩ : ∃ g, ts.length = g + 1 := ⟨ts.length - 1, by omega⟩
 rw [hg]
 simp only [dirsF]
 rw [notP_x (by rw [hx]; decide)]
 rfl
theorem brk_one {E : LitR} {N : Nat} {d : Dt} {j : Nat} (hk : (ts.getD 0 Tk.zero).k = 2) (hx : (ts.getD 0 Tk.zero).tx = bLc) (hm : 0 < mo) (hN : 2 ≤ ts.length) (hE : E ⟨ts, 1, 1, mo, 0⟩ = (some d, ⟨ts, j, 1, mo, 0⟩)) (hk2 : (ts.getD j Tk.zero).k = 2) (hx2 : (ts.getD j Tk.zero).tx = bRc) : brk E bLc bRc 1 ⟨ts, 0, 0, mo, 0⟩ = (some [d], ⟨ts, j + 1, 0, mo, 0⟩) := by
 obtain ⟨h1, h2⟩ := opn_at (op := 0) (mo := mo) hk hx hm
 unfold brk
 rw [if_pos h1, h2]
 show brkF E bRc 1 ts.length [] _ = _
 obtain ⟨g, hg⟩ : ∃ g, ts.length = g + 1 + 1 := ⟨ts.length - 2, by omega⟩
 rw [hg]
 have hc : ([] : List Dt).length < 1 ∨ (⟨ts, 0 + 1, 0 + 1, mo, 0⟩ : Cu).isP bRc = false := .inl (by decide)
 simp only [brkF]
 rw [if_pos hc]
 have hE' : E ⟨ts, 0 + 1, 0 + 1, mo, 0⟩ = (some d, ⟨ts, j, 1, mo, 0⟩) := hE
 rw [hE']
 dsimp only
 rw [if_neg (fun x => by rcases x with x | x; exact absurd x (by simp); rw [isP_at hk2 hx2] at x; cases x), cls_at hk2 hx2]
 rfl
theorem defs_one {D : LitR} {d : Dt} {j : Nat} (hN : 2 ≤ ts.length) (hD : D ⟨ts, 0, 0, mo, 0⟩ = (some d, ⟨ts, j, 0, mo, 0⟩)) (hk : (ts.getD j Tk.zero).k = 0) : (defsF D ts.length [] ⟨ts, 0, 0, mo, 0⟩).1 = some [d] := by
 obtain ⟨g, hg⟩ : ∃ g, ts.length = g + 1 + 1 := ⟨ts.length - 2, by omega⟩
 rw [hg]
 simp only [defsF]
 rw [if_pos (.inl rfl), hD]
 dsimp only
 rw [if_neg (fun x => by rcases x with x | x; exact absurd x (by simp); exact x hk)]
 have hf : (⟨ts, j, 0, mo, 0⟩ : Cu).finB = true := decide_eq_true ⟨rfl, hk⟩
 rw [hf]
 rfl
end
theorem doc_field {ts : List Tk} {mo nY : Nat} {ss : List Dt} (hm : 0 < mo) (hl : ts.length = nY + 7) (h0 : (ts.getD 0 Tk.zero).k = 2) (x0 : (ts.getD 0 Tk.zero).tx = bLc) (h1 : (ts.getD 1 Tk.zero).k = 3) (h2 : (ts.getD 2 Tk.zero).k = 2) (x2 : (ts.getD 2 Tk.zero).tx = bCol) (h3 : (ts.getD 3 Tk.zero).k = 3) (h4 : (ts.getD 4 Tk.zero).k = 2) (x4 : (ts.getD 4 Tk.zero).tx = bLc) (h5 : (ts.getD (nY + 5) Tk.zero).k = 2) (x5 : (ts.getD (nY + 5) Tk.zero).tx = bRc) (h6 : (ts.getD (nY + 6) Tk.zero).k = 0) (hS : selsF (litF false ts.length) (nY + 6) ⟨ts, 4, 1, mo, 0⟩ = (some ss, ⟨ts, nY + 5, 1, mo, 0⟩)) :
  (docS ⟨ts, 0, 0, mo, 0⟩).1 = some [defD 1 em em true [] [] [selD 1 (ts.getD 1 Tk.zero).tx (ts.getD 3 Tk.zero).tx em [] [] ss (ts.getD 1 Tk.zero).ln (ts.getD 1 Tk.zero).co] (ts.getD 0 Tk.zero).ln (ts.getD 0 Tk.zero).co] := by
 have hE : selS (litF false ts.length) (selsF (litF false ts.length) (nY + 6)) ⟨ts, 1, 1, mo, 0⟩ = (some (selD 1 (ts.getD 1 Tk.zero).tx (ts.getD 3 Tk.zero).tx em [] [] ss (ts.getD 1 Tk.zero).ln (ts.getD 1 Tk.zero).co), ⟨ts, nY + 5, 1, mo, 0⟩) := by
  unfold selS
  rw [notP_k (by rw [h1]; decide), if_neg (by decide)]
  have e1 : (⟨ts, 1, 1, mo, 0⟩ : Cu).name = ⟨ts, 2, 1, mo, 0⟩ := name_at h1
  have e2 : (⟨ts, 2, 1, mo, 0⟩ : Cu).isP bCol = true := isP_at h2 x2
  have e3 : (⟨ts, 2, 1, mo, 0⟩ : Cu).take.name = ⟨ts, 4, 1, mo, 0⟩ := name_at (i := 3) h3
  have f1 : fldC ⟨ts, 1, 1, mo, 0⟩ = ⟨ts, 4, 1, mo, 0⟩ := by unfold fldC; rw [e1, e2, if_pos rfl, e3]
  have f2 : fldN ⟨ts, 1, 1, mo, 0⟩ = (ts.getD 3 Tk.zero).tx := by unfold fldN; rw [e1, e2, if_pos rfl]; exact nmS_at (i := 3) h3
  have f3 : fldA ⟨ts, 1, 1, mo, 0⟩ = (ts.getD 1 Tk.zero).tx := by unfold fldA; rw [e1, e2, if_pos rfl]; exact nmS_at h1
  simp only [fieldS]
  rw [f1, f2, f3, args_no _ x4]
  dsimp only
  rw [dirs_no _ x4 (by omega)]
  dsimp only
  rw [isP_at h4 x4, if_pos rfl, hS]
  rfl
 have hb := brk_one (N := 0) h0 x0 hm (by omega) hE h5 x5
 unfold docS
 show (defsF (defN ts.length) ts.length [] ⟨ts, 0, 0, mo, 0⟩).1 = _
 refine defs_one (j := nY + 6) (by omega) ?_ h6
 unfold defN defS
 rw [isP_at h0 x0, if_pos rfl]
 rw [show selsF (litF false ts.length) ts.length = brk (selS (litF false ts.length) (selsF (litF false ts.length) (nY + 6))) bLc bRc 1 from by rw [hl]; rfl, hb]
 rfl
theorem doc_inline {ts : List Tk} {mo nY : Nat} {ss : List Dt} (hm : 0 < mo) (hl : ts.length = nY + 7) (h0 : (ts.getD 0 Tk.zero).k = 2) (x0 : (ts.getD 0 Tk.zero).tx = bLc) (h1 : (ts.getD 1 Tk.zero).k = 2) (x1 : (ts.getD 1 Tk.zero).tx = bDots) (h2 : (ts.getD 2 Tk.zero).k = 3) (x2 : (ts.getD 2 Tk.zero).tx = bOn) (h3 : (ts.getD 3 Tk.zero).k = 3) (h4 : (ts.getD 4 Tk.zero).k = 2) (x4 : (ts.getD 4 Tk.zero).tx = bLc) (h5 : (ts.getD (nY + 5) Tk.zero).k = 2) (x5 : (ts.getD (nY + 5) Tk.zero).tx = bRc) (h6 : (ts.getD (nY + 6) Tk.zero).k = 0) (hS : selsF (litF false ts.length) (nY + 6) ⟨ts, 4, 1, mo, 0⟩ = (some ss, ⟨ts, nY + 5, 1, mo, 0⟩)) :
  (docS ⟨ts, 0, 0, mo, 0⟩).1 = some [defD 1 em em true [] [] [selD 3 em em (ts.getD 3 Tk.zero).tx [] [] ss (ts.getD 1 Tk.zero).ln (ts.getD 1 Tk.zero).co] (ts.getD 0 Tk.zero).ln (ts.getD 0 Tk.zero).co] := by
 have hE : selS (litF false ts.length) (selsF (litF false ts.length) (nY + 6)) ⟨ts, 1, 1, mo, 0⟩ = (some (selD 3 em em (ts.getD 3 Tk.zero).tx [] [] ss (ts.getD 1 Tk.zero).ln (ts.getD 1 Tk.zero).co), ⟨ts, nY + 5, 1, mo, 0⟩) := by
  unfold selS
  rw [isP_at h1 x1, if_pos rfl]
  have e1 : (⟨ts, 1, 1, mo, 0⟩ : Cu).take = ⟨ts, 2, 1, mo, 0⟩ := rfl
  have e2 : (⟨ts, 2, 1, mo, 0⟩ : Cu).tok.tx = bOn := x2
  rw [e1, e2, isN_at h2]
  have w1 : (⟨ts, 2, 1, mo, 0⟩ : Cu).isW [bOn] = true := by rw [isW_at h2, x2]; decide
  have e3 : (⟨ts, 2, 1, mo, 0⟩ : Cu).take.name = ⟨ts, 4, 1, mo, 0⟩ := name_at (i := 3) h3
  have f1 : onC ⟨ts, 2, 1, mo, 0⟩ = ⟨ts, 4, 1, mo, 0⟩ := by unfold onC; rw [w1, if_pos rfl, e3]
  have f2 : onT ⟨ts, 2, 1, mo, 0⟩ = (ts.getD 3 Tk.zero).tx := by unfold onT; rw [w1, if_pos rfl]; exact nmS_at (i := 3) h3
  rw [if_neg (by decide)]
  unfold inlineS
  rw [f1, f2, dirs_no _ x4 (by omega)]
  dsimp only
  rw [hS]
  rfl
 have hb := brk_one (N := 0) h0 x0 hm (by omega) hE h5 x5
 unfold docS
 show (defsF (defN ts.length) ts.length [] ⟨ts, 0, 0, mo, 0⟩).1 = _
 refine defs_one (j := nY + 6) (by omega) ?_ h6
 unfold defN defS
 rw [isP_at h0 x0, if_pos rfl]
 rw [show selsF (litF false ts.length) ts.length = brk (selS (litF false ts.length) (selsF (litF false ts.length) (nY + 6))) bLc bRc 1 from by rw [hl]; rfl, hb]
 rfl
theorem doc_frag {ts : List Tk} {mo nY : Nat} {ss : List Dt} (hl : ts.length = nY + 6) (h0 : (ts.getD 0 Tk.zero).k = 3) (x0 : (ts.getD 0 Tk.zero).tx = bFrag) (h1 : (ts.getD 1 Tk.zero).k = 3) (x1 : (ts.getD 1 Tk.zero).tx ≠ bOn) (h2 : (ts.getD 2 Tk.zero).k = 3) (x2 : (ts.getD 2 Tk.zero).tx = bOn) (h3 : (ts.getD 3 Tk.zero).k = 3) (x4 : (ts.getD 4 Tk.zero).tx = bLc) (h5 : (ts.getD (nY + 5) Tk.zero).k = 0) (hS : selsF (litF false ts.length) ts.length ⟨ts, 4, 0, mo, 0⟩ = (some ss, ⟨ts, nY + 5, 0, mo, 0⟩)) :
  (docS ⟨ts, 0, 0, mo, 0⟩).1 = some [defD 4 (ts.getD 1 Tk.zero).tx (ts.getD 3 Tk.zero).tx false [] [] ss (ts.getD 0 Tk.zero).ln (ts.getD 0 Tk.zero).co] := by
 unfold docS
 show (defsF (defN ts.length) ts.length [] ⟨ts, 0, 0, mo, 0⟩).1 = _
 refine defs_one (j := nY + 5) (by omega) ?_ h5
 unfold defN defS
 rw [notP_k (by rw [h0]; decide), if_neg (by decide), isW_at h0, x0, if_pos (by decide)]
 have e0 : (⟨ts, 0, 0, mo, 0⟩ : Cu).tok.tx = bFrag := x0
 rw [e0, if_neg (by decide), if_neg (by decide), if_neg (by decide)]
 have e1 : (⟨ts, 0, 0, mo, 0⟩ : Cu).take = ⟨ts, 1, 0, mo, 0⟩ := rfl
 rw [e1]
 have hb : ((⟨ts, 1, 0, mo, 0⟩ : Cu).isN && !inW [bOn] (⟨ts, 1, 0, mo, 0⟩ : Cu).tok.tx) = true := by
  rw [isN_at h1]
  have : inW [bOn] (⟨ts, 1, 0, mo, 0⟩ : Cu).tok.tx = false := by
   show inW [bOn] (ts.getD 1 Tk.zero).tx = false
   unfold inW
   simp only [List.any_cons, List.any_nil, Bool.or_false]
   exact decide_eq_false fun x => x1 x.symm
  rw [this]
  rfl
 have f1 : fragC ⟨ts, 1, 0, mo, 0⟩ = ⟨ts, 2, 0, mo, 0⟩ := by unfold fragC; rw [hb]; rfl
 have w1 : (⟨ts, 2, 0, mo, 0⟩ : Cu).isW [bOn] = true := by rw [isW_at h2, x2]; decide
 have f2 : fragO ⟨ts, 2, 0, mo, 0⟩ = ⟨ts, 3, 0, mo, 0⟩ := by unfold fragO; rw [w1]; rfl
 have f3 : (⟨ts, 3, 0, mo, 0⟩ : Cu).name = ⟨ts, 4, 0, mo, 0⟩ := name_at (i := 3) h3
 unfold fragS
 rw [hb, f1, f2, f3, nmS_at (i := 3) h3]
 unfold bodyS
 rw [dirs_no _ x4 (by omega)]
 dsimp only
 rw [hS]
 rfl
def P2 : List Int := [123, 107, 58, 119]
def P3 : List Int := [123, 46, 46, 46, 111, 110, 32, 84]
def P4 : List Int := [102, 114, 97, 103, 109, 101, 110, 116, 32, 70, 32, 111, 110, 32, 84]
def nk : ByteArray := ⟨#[107]⟩
def nw : ByteArray := ⟨#[119]⟩
def nT : ByteArray := ⟨#[84]⟩
def nF : ByteArray := ⟨#[70]⟩
theorem toks_P2 : ∃ a b c d e, tksG (P2 ++ [123]) true 0 = [a, b, c, d, e, ⟨0, 1, 6, 5, 5, ⟨#[]⟩, ⟨#[]⟩⟩] ∧ (a.k = 2 ∧ a.tx = bLc) ∧ (b.k = 3 ∧ b.tx = nk) ∧ (c.k = 2 ∧ c.tx = bCol) ∧ d.k = 3 ∧ d.tx = nw ∧ d.to = 4 :=
 ⟨⟨2, 1, 1, 0, 1, bLc, ⟨#[]⟩⟩, ⟨3, 1, 2, 1, 2, nk, ⟨#[]⟩⟩, ⟨2, 1, 3, 2, 3, bCol, ⟨#[]⟩⟩, ⟨3, 1, 4, 3, 4, nw, ⟨#[]⟩⟩, ⟨2, 1, 5, 4, 5, bLc, ⟨#[]⟩⟩, by kernel_rfl, ⟨rfl, rfl⟩, ⟨rfl, rfl⟩, ⟨rfl, rfl⟩, rfl, rfl, rfl⟩
theorem toks_P3 : ∃ a b c d e, tksG (P3 ++ [123]) true 0 = [a, b, c, d, e, ⟨0, 1, 10, 9, 9, ⟨#[]⟩, ⟨#[]⟩⟩] ∧ (a.k = 2 ∧ a.tx = bLc) ∧ (b.k = 2 ∧ b.tx = bDots) ∧ (c.k = 3 ∧ c.tx = bOn) ∧ d.k = 3 ∧ d.tx = nT ∧ d.to = 8 :=
 ⟨⟨2, 1, 1, 0, 1, bLc, ⟨#[]⟩⟩, ⟨2, 1, 2, 1, 4, bDots, ⟨#[]⟩⟩, ⟨3, 1, 5, 4, 6, bOn, ⟨#[]⟩⟩, ⟨3, 1, 8, 7, 8, nT, ⟨#[]⟩⟩, ⟨2, 1, 9, 8, 9, bLc, ⟨#[]⟩⟩, by kernel_rfl, ⟨rfl, rfl⟩, ⟨rfl, rfl⟩, ⟨rfl, rfl⟩, rfl, rfl, rfl⟩
theorem toks_P4 : ∃ a b c d e, tksG (P4 ++ [123]) true 0 = [a, b, c, d, e, ⟨0, 1, 17, 16, 16, ⟨#[]⟩, ⟨#[]⟩⟩] ∧ (a.k = 3 ∧ a.tx = bFrag) ∧ (b.k = 3 ∧ b.tx = nF) ∧ (c.k = 3 ∧ c.tx = bOn) ∧ d.k = 3 ∧ d.tx = nT ∧ d.to = 15 :=
 ⟨⟨3, 1, 1, 0, 8, bFrag, ⟨#[]⟩⟩, ⟨3, 1, 10, 9, 10, nF, ⟨#[]⟩⟩, ⟨3, 1, 12, 11, 13, bOn, ⟨#[]⟩⟩, ⟨3, 1, 15, 14, 15, nT, ⟨#[]⟩⟩, ⟨2, 1, 16, 15, 16, bLc, ⟨#[]⟩⟩, by kernel_rfl, ⟨rfl, rfl⟩, ⟨rfl, rfl⟩, ⟨rfl, rfl⟩, rfl, rfl, rfl⟩
theorem end_tok4 (l : List Int) : (tkG l true l.length).k = 0 := by
 have hg : ign l false l.length = l.length := by
  have := lx.ign_le l false l.length
  exact Nat.le_antisymm (this.2 (Nat.le_refl _)) this.1
 show (rdG l true (ign l false l.length)).1 = 0
 rw [hg]
 unfold rdG
 rw [if_pos ⟨rfl, rfl⟩]
theorem body_toks {C : List Int} {nY : Nat} {t : Tk} (ht : (tksG (C ++ [10, 125]) true 0)[nY]? = some t) (h0 : t.k = 0) :
  (∀ q, q < nY → (tksG (C ++ [10, 125, 125]) true 0)[q]? = (tksG (C ++ [10, 125]) true 0)[q]?) ∧ (∃ u, (tksG (C ++ [10, 125, 125]) true 0)[nY]? = some u ∧ u.k = 2 ∧ u.tx = bRc) ∧ ∃ u, (tksG (C ++ [10, 125, 125]) true 0)[nY + 1]? = some u ∧ u.k = 0 := by
 have h := tks_brace (C := C) nY 0 t (Nat.zero_le _) ht h0
 have hlen : (C ++ [10, 125, 125]).length = C.length + 3 := by simp
 have hat : cAt (C ++ [10, 125, 125]) (C.length + 2) = 125 := by
  rw [lx.cAt_in (by rw [hlen]; omega), List.getD_eq_getElem?_getD, List.getElem?_append_right (by omega), show C.length + 2 - C.length = 2 by omega]; rfl
 have hb := tk_br (cl := true) hat (.inr rfl)
 have hgo := lx.tksG_go (l := C ++ [10, 125, 125]) (cl := true) (i := C.length + 2) (by rw [hlen]; omega) (by rw [hb.1]; decide)
 have hend : tksG (C ++ [10, 125, 125]) true (C.length + 2 + 1) = [tkG (C ++ [10, 125, 125]) true (C ++ [10, 125, 125]).length] := by
  rw [show C.length + 2 + 1 = (C ++ [10, 125, 125]).length by rw [hlen]]
  exact lx.tksG_end (.inl (end_tok4 (C ++ [10, 125, 125])))
 rw [hb.2.2.2.1, hend] at hgo
 rw [hgo] at h
 have hlt : nY < (tksG (C ++ [10, 125]) true 0).length := (List.getElem?_eq_some_iff.1 ht).1
 have hl2 : ((tksG (C ++ [10, 125]) true 0).take nY).length = nY := by simp; omega
 rw [h]
 refine ⟨fun q hq => ?_, ⟨_, ?_, hb.1, hb.2.1.trans (by kernel_rfl)⟩, ⟨_, ?_, end_tok4 (C ++ [10, 125, 125])⟩⟩
 ·rw [List.getElem?_append_left (by omega), List.getElem?_take, if_pos hq]
 ·rw [List.getElem?_append_right (by omega), hl2, Nat.sub_self]
  rfl
 ·rw [List.getElem?_append_right (by omega), hl2, show nY + 1 - nY = 1 by omega]
  rfl
theorem gD {l : List Tk} {i : Nat} {t : Tk} (h : l[i]? = some t) : l.getD i Tk.zero = t := by rw [List.getD_eq_getElem?_getD, h]; rfl
theorem flat_plain {P : List Int} (h : P.all (fun x => decide (0 ≤ x ∧ x < 128)) = true) : P.flatMap putB = P ∧ P.all scB = true := by
 induction P with
 | nil => exact ⟨rfl, rfl⟩
 | cons c P ih =>
  rw [List.all_cons, Bool.and_eq_true] at h
  obtain ⟨h1, h2⟩ := ih h.2
  have hc := of_decide_eq_true h.1
  refine ⟨?_, ?_⟩
  ·rw [List.flatMap_cons, h1, mem.putB_1 hc.2]; rfl
  ·rw [List.all_cons, h2, Bool.and_true, mem.scB_iff]; unfold mem.scP; omega
theorem src_chars {C P R : List Int} (hC : C.all scB = true) (hP : P.all (fun x => decide (0 ≤ x ∧ x < 128)) = true) (hR : R.all (fun x => decide (0 ≤ x ∧ x < 128)) = true) : toks (P ++ C.flatMap putB ++ R) = tksG (P ++ (C ++ R)) true 0 := by
 obtain ⟨p1, p2⟩ := flat_plain hP
 obtain ⟨r1, r2⟩ := flat_plain hR
 have e : P ++ C.flatMap putB ++ R = (P ++ (C ++ R)).flatMap putB := by
  rw [List.flatMap_append, List.flatMap_append, p1, r1, List.append_assoc]
 obtain ⟨q1, q2⟩ := chs_flat (cs := P ++ (C ++ R)) (by rw [List.all_append, List.all_append, p2, hC, r2]; rfl)
 unfold toks
 rw [e, q1, q2]
theorem doc_short {c : Cu} (hc : c.Ok) (hix : c.ix = 0) (h0 : c.kd = 0) (hp : c.isP bLc = true) {x : Dt} (h : (docS c).1 = some [x]) : ∃ ss cE, selsF (litF false c.ts.length) c.ts.length c = (some ss, cE) ∧ x = defD 1 em em true [] [] ss c.tok.ln c.tok.co ∧ cE.kd = 0 ∧ cE.tok.k = 0 ∧ Stp c cE := by
 have hfin := defsF_live3 _ _ _ _ (show (docS c).1.isSome = true by rw [h]; rfl)
 unfold docS at h hfin
 have hl := hc.lt
 obtain ⟨g, hg⟩ : ∃ g, c.ts.length = g + 1 := ⟨c.ts.length - 1, by omega⟩
 obtain ⟨D, hD⟩ : ∃ D, D = defN c.ts.length := ⟨_, rfl⟩
 have hG : Goes D := by rw [hD]; exact defN_goes _
 have hDc : D c = (match (selsF (litF false c.ts.length) c.ts.length c).1 with | none => (none, (selsF (litF false c.ts.length) c.ts.length c).2) | some ss => (some (defD 1 em em true [] [] ss c.tok.ln c.tok.co), (selsF (litF false c.ts.length) c.ts.length c).2)) := by
  rw [hD]
  unfold defN defS
  rw [hp, if_pos rfl]
  cases (selsF (litF false c.ts.length) c.ts.length c).1 <;> rfl
 rw [← hD] at h hfin
 rw [hg] at h hfin
 simp only [defsF] at h hfin
 rw [if_pos (.inl rfl)] at h hfin
 have hst := (selsF_goes (litF_goes false c.ts.length) c.ts.length c hc).1
 obtain ⟨z, hz⟩ : ∃ z, z = selsF (litF false c.ts.length) c.ts.length c := ⟨_, rfl⟩
 rw [← hz] at hDc hst ⊢
 obtain ⟨r, cE⟩ := z
 cases r with
 | none => rw [hDc] at h; cases h
 | some ss =>
  rw [hDc] at h hfin
  dsimp only at h hfin
  refine ⟨ss, cE, rfl, ?_⟩
  cases g with
  | zero => cases h
  | succ g =>
   simp only [defsF] at h hfin
   by_cases hx : ([] ++ [defD 1 em em true [] [] ss c.tok.ln c.tok.co]).length = 0 ∨ cE.tok.k ≠ 0
   ·exfalso
    rw [if_pos hx] at h
    cases hq : (D cE).1 with
    | none => rw [hq] at h; cases h
    | some y =>
     rw [hq] at h
     have := (defsF_len D g _ _ _ h).2
     simp at this
   ·rw [if_neg hx] at h hfin
    have hk : cE.tok.k = 0 := Classical.byContradiction fun e => hx (.inr e)
    have hkd : cE.kd = 0 := by
     have := hfin.1
     dsimp only at this
     unfold Cu.fin at this
     split at this
     ·exact this
     ·exact absurd this (stop_kd _ _ (by decide))
    have hx1 : x = defD 1 em em true [] [] ss c.tok.ln c.tok.co := by
     dsimp only at h
     split at h
     ·have := Option.some.inj h
      simp at this
      exact this.symm
     ·cases h
    exact ⟨hx1, hkd, hk, hst⟩
theorem four_toks {C P0 R : List Int} {nY : Nat} {t a b c d e z : Tk} (hP : tksG (P0 ++ [123]) true 0 = [a, b, c, d, e, z]) (hd : d.k = 3) (hto : d.to = P0.length) (hR : ∀ q, q < nY → (tksG R true 0)[q]? = (tksG (C ++ [10, 125]) true 0)[q]?) (hl : nY < (tksG (C ++ [10, 125]) true 0).length) :
  (tksG (P0 ++ 123 :: R) true 0).getD 0 Tk.zero = a ∧ (tksG (P0 ++ 123 :: R) true 0).getD 1 Tk.zero = b ∧ (tksG (P0 ++ 123 :: R) true 0).getD 2 Tk.zero = c ∧ (tksG (P0 ++ 123 :: R) true 0).getD 3 Tk.zero = d ∧ ((tksG (P0 ++ 123 :: R) true 0).getD 4 Tk.zero).k = 2 ∧ ((tksG (P0 ++ 123 :: R) true 0).getD 4 Tk.zero).tx = bLc ∧
  (∀ q u, (tksG R true 0)[q]? = some u → (tksG (P0 ++ 123 :: R) true 0)[5 + q]? = some (shT (P0 ++ 123 :: R) (P0.length + 1) u)) ∧ (∀ i, i ≤ nY → EqT false ((T1 C).getD i Tk.zero) ((tksG (P0 ++ 123 :: R) true 0).getD (i + 4) Tk.zero)) := by
 have hP3 : (tksG (P0 ++ [123]) true 0)[3]? = some d := by rw [hP]; rfl
 have h0 : d.k ≠ 0 := by rw [hd]; decide
 have h1 : d.k ≠ 1 := by rw [hd]; decide
 obtain ⟨s1, s2, s3⟩ := src_toks P0 R hP3 h0 h1 hto
 have hb := tk_br (cl := true) (at_mid P0 123 R) (.inl rfl)
 refine ⟨gD (by rw [s1 0 (by omega), hP]; rfl), gD (by rw [s1 1 (by omega), hP]; rfl), gD (by rw [s1 2 (by omega), hP]; rfl), gD (by rw [s1 3 (by omega), hP]; rfl), ?_, ?_, fun q u hu => ?_, near_toks hP3 h0 h1 hto hR hl⟩
 ·rw [gD s2]; exact hb.1
 ·rw [gD s2]; exact hb.2.1.trans (by kernel_rfl)
 ·have := s3 q
  rw [List.getElem?_map, hu] at this
  exact this
theorem most_at {d : Int} (h : 0 ≤ d ∧ d < 200) : mostS d + 1 ≤ 200 ∧ mostS (d + 1) = mostS d + 1 := by unfold mostS; omega
set_option maxHeartbeats 2000000 in
theorem doc_nested (zb : List Int) (hz : Byt zb) (d : Int) (hd : 0 ≤ d ∧ d < 200) {x : Dt} (h : (docG (123 :: zb ++ [10, 125]) d).1 = some [x]) :
  ∃ f ss a b, x = defD 1 em em true [] [] ss a b ∧
   (∃ s2 a1 b1 a2 b2, (docG (P2 ++ [123] ++ zb ++ [10, 125, 125]) (d + 1)).1 = some [defD 1 em em true [] [] [selD 1 nk nw em [] [] s2 a1 b1] a2 b2] ∧ EqLs (EqS false f f) ss s2) ∧
   (∃ s2 a1 b1 a2 b2, (docG (P3 ++ [123] ++ zb ++ [10, 125, 125]) (d + 1)).1 = some [defD 1 em em true [] [] [selD 3 em em nT [] [] s2 a1 b1] a2 b2] ∧ EqLs (EqS false f f) ss s2) ∧
   (∃ s2 a2 b2, (docG (P4 ++ [123] ++ zb ++ [10, 125]) d).1 = some [defD 4 nF nT false [] [] s2 a2 b2] ∧ EqLs (EqS false f f) ss s2) := by
 obtain ⟨k0, cl, len, pos, t, ht, hk⟩ := doc_end _ d h
 obtain ⟨C, hC, rfl⟩ := body_chars hz cl
 have ht1 : toks (123 :: C.flatMap putB ++ [10, 125]) = T1 C := src_chars (P := [123]) (R := [10, 125]) hC (by decide) (by decide)
 obtain ⟨nY, hnY⟩ : ∃ nY, (docG (123 :: C.flatMap putB ++ [10, 125]) d).2.ix = nY + 1 := ⟨(docG (123 :: C.flatMap putB ++ [10, 125]) d).2.ix - 1, by omega⟩
 rw [hnY, ht1] at ht len
 obtain ⟨u, hu, huk⟩ : ∃ u, (tksG (C ++ [10, 125]) true 0)[nY]? = some u ∧ u.k = 0 := by
  rw [T1_eq, List.getElem?_cons_succ, List.getElem?_map] at ht
  cases hq : (tksG (C ++ [10, 125]) true 0)[nY]? with
  | none => rw [hq] at ht; cases ht
  | some u =>
   rw [hq] at ht
   have := Option.some.inj ht
   rw [← this] at hk
   exact ⟨u, rfl, hk⟩
 have hYl : nY < (tksG (C ++ [10, 125]) true 0).length := (List.getElem?_eq_some_iff.1 hu).1
 obtain ⟨r1, ⟨ur, hur, hur1, hur2⟩, ue, hue, hue0⟩ := body_toks hu huk
 have hok := newG_ok' (123 :: C.flatMap putB ++ [10, 125]) d
 obtain ⟨c1, hc1⟩ : ∃ c, c = newG (123 :: C.flatMap putB ++ [10, 125]) d := ⟨_, rfl⟩
 unfold docG at h
 rw [← hc1] at h hok
 have hts : c1.ts = T1 C := by rw [hc1]; exact ht1
 have hix : c1.ix = 0 := by rw [hc1]; rfl
 have hkd : c1.kd = 0 := by rw [hc1]; rfl
 have hinv : Inv c1 := by rw [hc1]; rfl
 have hop : c1.op = 0 := by rw [hc1]; rfl
 have hmo : c1.mo = mostS d := by rw [hc1]; rfl
 have hp : c1.isP bLc = true := by
  have hb := tk_br (l := 123 :: (C ++ [10, 125])) (cl := true) (i := 0) (b := 123) (at_mid [] 123 (C ++ [10, 125])) (.inl rfl)
  have htok : c1.tok = tkG (123 :: (C ++ [10, 125])) true 0 := by
   show c1.ts.getD c1.ix Tk.zero = _
   rw [hts, hix, T1_eq]
   rfl
  exact decide_eq_true ⟨hkd, by rw [htok]; exact hb.1, by rw [htok]; exact hb.2.1.trans (by kernel_rfl)⟩
 obtain ⟨ss, cE, hS, hx, hE, hEt, hst⟩ := doc_short hok hix hkd hp h
 have hEx : cE.ix = nY + 1 := by
  have hg := cE.get hst.ok.lt
  rw [hst.ts, hts] at hg
  have h9 : (T1 C).length = cE.ix + 1 := tks_last3 (123 :: (C ++ [10, 125])) true cE.ix 0 _ (Nat.zero_le _) hg (.inl hEt)
  omega
 obtain ⟨hm1, hm2⟩ := most_at hd
 have more : ∀ (P0 : List Int) (hP0 : (P0 ++ [123]).all (fun x => decide (0 ≤ x ∧ x < 128)) = true) {a b c dd e z : Tk} (hP : tksG (P0 ++ [123]) true 0 = [a, b, c, dd, e, z]) (hdd : dd.k = 3) (hto : dd.to = P0.length), ∃ ts s2, newG (P0 ++ [123] ++ C.flatMap putB ++ [10, 125, 125]) (d + 1) = ⟨ts, 0, 0, mostS d + 1, 0⟩ ∧ ts.length = nY + 7 ∧ ts.getD 0 Tk.zero = a ∧ ts.getD 1 Tk.zero = b ∧ ts.getD 2 Tk.zero = c ∧ ts.getD 3 Tk.zero = dd ∧ (ts.getD 4 Tk.zero).k = 2 ∧ (ts.getD 4 Tk.zero).tx = bLc ∧ (ts.getD (nY + 5) Tk.zero).k = 2 ∧ (ts.getD (nY + 5) Tk.zero).tx = bRc ∧ (ts.getD (nY + 6) Tk.zero).k = 0 ∧ selsF (litF false ts.length) (nY + 6) ⟨ts, 4, 1, mostS d + 1, 0⟩ = (some s2, ⟨ts, nY + 5, 1, mostS d + 1, 0⟩) ∧ EqLs (EqS false c1.ts.length c1.ts.length) ss s2 := by
  intro P0 hP0 a b c dd e z hP hdd hto
  have htk : toks (P0 ++ [123] ++ C.flatMap putB ++ [10, 125, 125]) = tksG (P0 ++ 123 :: (C ++ [10, 125, 125])) true 0 := by
   rw [src_chars (P := P0 ++ [123]) (R := [10, 125, 125]) hC hP0 (by decide)]
   simp
  obtain ⟨y0, y1, y2, y3, y4, y5, y6, y7⟩ := four_toks (t := Tk.zero) hP hdd hto r1 hYl
  have hN := newG_ok' (P0 ++ [123] ++ C.flatMap putB ++ [10, 125, 125]) (d + 1)
  have hn : newG (P0 ++ [123] ++ C.flatMap putB ++ [10, 125, 125]) (d + 1) = ⟨tksG (P0 ++ 123 :: (C ++ [10, 125, 125])) true 0, 0, 0, mostS d + 1, 0⟩ := by
   unfold newG
   rw [htk, hm2]
  rw [hn] at hN
  obtain ⟨ts, hts2⟩ : ∃ ts, ts = tksG (P0 ++ 123 :: (C ++ [10, 125, 125])) true 0 := ⟨_, rfl⟩
  have z1 := y6 nY ur hur
  have z2 := y6 (nY + 1) ue hue
  have hlen : ts.length = nY + 7 := by
   rw [hts2]
   have := tks_last3 _ _ (5 + (nY + 1)) 0 _ (Nat.zero_le _) z2 (.inl hue0)
   omega
  rw [← hts2] at y0 y1 y2 y3 y4 y5 z1 z2 y7 hN hn
  have hc2 : (⟨ts, 4, 1, mostS d + 1, 0⟩ : Cu).Ok := ⟨by show 4 < ts.length; omega, hN.more, by show 1 ≤ mostS d + 1; omega, hm1⟩
  have hsf : Sf false nY 4 1 c1 ⟨ts, 4, 1, mostS d + 1, 0⟩ := ⟨by rw [hix], by rw [hop], by rw [hmo], by rw [hkd], fun i hi => by rw [hts]; exact y7 i hi⟩
  obtain ⟨s2, q1, q2⟩ := sels_near (N2 := ts.length) (g' := nY + 6) hok hc2 hsf hinv hkd hix hS hE hEx (by omega) (by show ts.length ≤ nY + 6 + 4; omega)
  refine ⟨ts, s2, hn, hlen, y0, y1, y2, y3, y4, y5, ?_, ?_, ?_, q1, q2⟩
  ·rw [show nY + 5 = 5 + nY by omega, gD z1]; exact hur1
  ·rw [show nY + 5 = 5 + nY by omega, gD z1]; exact hur2
  ·rw [show nY + 6 = 5 + (nY + 1) by omega, gD z2]; exact hue0
 refine ⟨c1.ts.length, ss, _, _, hx, ?_, ?_, ?_⟩
 ·obtain ⟨a, b, c, dd, e, hP, ⟨a1, a2⟩, ⟨b1, b2⟩, ⟨c3, c4⟩, d1, d2, d3⟩ := toks_P2
  obtain ⟨ts, s2, hn, hlen, y0, y1, y2, y3, y4, y5, z1, z2, z3, q1, q2⟩ := more P2 (by decide) hP d1 d3
  have := doc_field (ts := ts) (mo := mostS d + 1) (by omega) hlen (by rw [y0]; exact a1) (by rw [y0]; exact a2) (by rw [y1]; exact b1) (by rw [y2]; exact c3) (by rw [y2]; exact c4) (by rw [y3]; exact d1) y4 y5 z1 z2 z3 q1
  rw [y1, y3, b2, d2] at this
  exact ⟨s2, _, _, _, _, (congrArg (fun c => (docS c).1) hn).trans this, q2⟩
 ·obtain ⟨a, b, c, dd, e, hP, ⟨a1, a2⟩, ⟨b1, b2⟩, ⟨c3, c4⟩, d1, d2, d3⟩ := toks_P3
  obtain ⟨ts, s2, hn, hlen, y0, y1, y2, y3, y4, y5, z1, z2, z3, q1, q2⟩ := more P3 (by decide) hP d1 d3
  have := doc_inline (ts := ts) (mo := mostS d + 1) (by omega) hlen (by rw [y0]; exact a1) (by rw [y0]; exact a2) (by rw [y1]; exact b1) (by rw [y1]; exact b2) (by rw [y2]; exact c3) (by rw [y2]; exact c4) (by rw [y3]; exact d1) y4 y5 z1 z2 z3 q1
  rw [y3, d2] at this
  exact ⟨s2, _, _, _, _, (congrArg (fun c => (docS c).1) hn).trans this, q2⟩
 ·obtain ⟨a, b, c, dd, e, hP, ⟨a1, a2⟩, ⟨b1, b2⟩, ⟨c3, c4⟩, d1, d2, d3⟩ := toks_P4
  have htk : toks (P4 ++ [123] ++ C.flatMap putB ++ [10, 125]) = tksG (P4 ++ 123 :: (C ++ [10, 125])) true 0 := by
   rw [src_chars (P := P4 ++ [123]) (R := [10, 125]) hC (by decide) (by decide)]
   simp
  obtain ⟨y0, y1, y2, y3, y4, y5, y6, y7⟩ := four_toks (t := Tk.zero) (R := C ++ [10, 125]) hP d1 d3 (fun q hq => rfl) hYl
  have hN := newG_ok' (P4 ++ [123] ++ C.flatMap putB ++ [10, 125]) d
  have hn : newG (P4 ++ [123] ++ C.flatMap putB ++ [10, 125]) d = ⟨tksG (P4 ++ 123 :: (C ++ [10, 125])) true 0, 0, 0, mostS d, 0⟩ := by
   unfold newG
   rw [htk]
  rw [hn] at hN
  obtain ⟨ts, hts2⟩ : ∃ ts, ts = tksG (P4 ++ 123 :: (C ++ [10, 125])) true 0 := ⟨_, rfl⟩
  have z1 := y6 nY u hu
  have hlen : ts.length = nY + 6 := by
   rw [hts2]
   have := tks_last3 _ _ (5 + nY) 0 _ (Nat.zero_le _) z1 (.inl huk)
   omega
  rw [← hts2] at y0 y1 y2 y3 y4 y5 z1 y7 hN hn
  have hc2 : (⟨ts, 4, 0, mostS d, 0⟩ : Cu).Ok := ⟨by show 4 < ts.length; omega, hN.more, Nat.zero_le _, by show mostS d ≤ 200; omega⟩
  have hsf : Sf false nY 4 0 c1 ⟨ts, 4, 0, mostS d, 0⟩ := ⟨by rw [hix], by rw [hop], by rw [hmo]; rfl, by rw [hkd], fun i hi => by rw [hts]; exact y7 i hi⟩
  obtain ⟨s2, q1, q2⟩ := sels_near (N2 := ts.length) (g' := ts.length) hok hc2 hsf hinv hkd hix hS hE hEx (Nat.le_refl _) (by show ts.length ≤ ts.length + 4; omega)
  have := doc_frag (ts := ts) (mo := mostS d) hlen (by rw [y0]; exact a1) (by rw [y0]; exact a2) (by rw [y1]; exact b1) (by rw [y1, b2]; decide) (by rw [y2]; exact c3) (by rw [y2]; exact c4) (by rw [y3]; exact d1) y5 (by rw [show nY + 5 = 5 + nY by omega, gD z1]; exact huk) q1
  rw [y1, y3, b2, d2] at this
  exact ⟨s2, _, _, (congrArg (fun c => (docS c).1) hn).trans this, q2⟩
open Go.ChangeShapes Go.WideShapes Go.ChangeAt Go.RowKit
theorem two_alloc (w : World) (o o' : Obj) : Below w.heap.size w ((w.alloc o).alloc o') := ((Below.refl _ _).alloc (Nat.le_refl _) o).alloc (by simp) o'
theorem two_at (w : World) (cs ds : Array Value) (t u : TypeId) : ((w.alloc (.cells cs t)).alloc (.cells ds u)).heap[w.heap.size]? = some (.cells cs t (0, 0)) ∧ ((w.alloc (.cells cs t)).alloc (.cells ds u)).heap[w.heap.size + 1]? = some (.cells ds u (0, 0)) := by
 refine ⟨(Below.heap_alloc _ _ w.heap.size (by simp)).trans (heap_alloc_new w _), ?_⟩
 have := heap_alloc_new (w.alloc (.cells cs t)) (.cells ds u)
 simpa using this
open ints (hide unhide)
open dt (Dt Kp RowAt Ow Grow OwIn)
open mem (Row)
open lx (toks chs cln)
structure DpI (w wr : World) (a b : Int) : Prop where
 bel : Below w.heap.size w wr
 r : wr.heap[w.heap.size]? = some (.cells #[.int .i64 0, .int .i64 0] 28 (0, 0))
 q : wr.heap[w.heap.size + 1]? = some (.cells #[.int .i64 a, .int .i64 b] 28 (0, 0))
def SmLs (fn : Nat) (pl : Bool) (k : Nat) (l l' : List Dt) : Prop := ∀ (w : World) (a a' : Option Addr) (c c' : Nat) (F G : List Nat), Ls w k l a F → Ls w k l' a' G → (∀ b ∈ F, b < w.heap.size) → (∀ b ∈ G, b < w.heap.size) → l.length ≤ c → l'.length ≤ c' → c ≤ maxLen → c' ≤ maxLen →
 Calls Tryz.prog fn #[.slice a l.length c, .slice a' l'.length c', .bool pl] w fun e w' => e = .returned (.bool true) ∧ Below w.heap.size w w'


end Go.Proofs.YtcebeajjpcbgcaaGreat.cu
