import Derived.Test.YtcebeajjpcbgcaaGreatQne11
set_option linter.unusedVariables false
set_option linter.unusedSimpArgs false
namespace Go.Proofs.YtcebeajjpcbgcaaGreat.lx
open mem (pfx digB digs digAt isAt bWhole bPart bPoint bMark pfxFirst pfxR posT enB prB)
open cu (Tk)
structure Loc (l l' : List Int) (T : Nat) : Prop where
 tk : l'.take T = l.take T
 le : T ≤ l.length
 nl : cAt l' T = 10
section
variable {l l' : List Int} {T : Nat} (H : Loc l l' T)
include H
omit H in
theorem digAt_c (l : List Int) (p : Nat) : digAt l p = digB (cAt l p) := by
 unfold digAt cAt
 by_cases h : p < l.length
 ·simp [h]
 ·simp [h, digB]
omit H in
theorem isAt_c (l : List Int) (p : Nat) (c : Int) (hc : c ≠ -1) : isAt l p c = decide (cAt l p = c) := by
 unfold isAt cAt
 by_cases h : p < l.length
 ·simp [h, BEq.beq]
 ·simp [h]; exact fun e => hc e.symm
end
end Go.Proofs.YtcebeajjpcbgcaaGreat.lx
namespace Go.Proofs.YtcebeajjpcbgcaaGreat.cu
open dt (Dt)
open mem (decF decZ putB scB Byt posT enB)
open lx (toks chs cln tksG tkG)
theorem decF_app : ∀ (zs : List Int) (f : Nat) (r : List Int), zs.all scB = true → decF (zs.length + f) (zs.flatMap putB ++ r) = (zs ++ (decF f r).1, (zs.flatMap putB).length + (decF f r).2)
 | [], f, r, _ => by simp
 | c :: zs, f, r, h => by
  rw [List.all_cons, Bool.and_eq_true] at h
  have hc := (mem.scB_iff c).1 h.1
  have ho := mem.one_put c hc (zs.flatMap putB ++ r)
  have hn : 0 < (putB c).length := by unfold putB; split <;> (try split) <;> (try split) <;> simp
  rw [List.flatMap_cons, List.append_assoc, List.length_cons, show zs.length + 1 + f = (zs.length + f) + 1 by omega, mem.decF_go _ _ (by rw [ho]; simp only; omega), ho]
  simp only
  rw [show (putB c ++ (zs.flatMap putB ++ r)).drop (putB c).length = zs.flatMap putB ++ r by simp, decF_app zs f r h.2]
  simp
  omega
theorem decF_fuel : ∀ (f g : Nat) (l : List Int), l.length ≤ f → l.length ≤ g → decF f l = decF g l
 | 0, g, l, hf, hg => by
  have : l = [] := List.eq_nil_of_length_eq_zero (by omega)
  subst this
  rw [mem.decF_end _ _ (by decide), mem.decF_end _ _ (by decide)]
 | f + 1, 0, l, hf, hg => by
  have : l = [] := List.eq_nil_of_length_eq_zero (by omega)
  subst this
  rw [mem.decF_end _ _ (by decide), mem.decF_end _ _ (by decide)]
 | f + 1, g + 1, l, hf, hg => by
  by_cases h : (mem.oneL l).2 = 0
  ·rw [mem.decF_end _ _ h, mem.decF_end _ _ h]
  ·have := mem.oneL_le l
   rw [mem.decF_go _ _ h, mem.decF_go _ _ h, decF_fuel f g _ (by simp; omega) (by simp; omega)]
def behind (l : List Int) (T : Nat) (tl : List Int) : List Int := (l.take T).flatMap putB ++ 10 :: tl
open dt (Dt Kp RowAt Ow Grow)
theorem bodyS_faults {L : LitR} {S : LstR} (hG : Goes L) {b : Nat} (hS : Faults S b) (k : Int) (nm on : ByteArray) (vs : List Dt) (t : Tk) : Faults (bodyS L S k nm on vs t) b := by
 intro c hc hl hn
 have h1 := dirs_stp hG hc
 have h3 := hS _ h1.ok (by rw [h1.ts]; have := h1.ix; omega)
 unfold bodyS at hn ⊢
 cases hq : (S (dirs L c).2).1 with
 | none => exact h3 hq
 | some l => rw [hq] at hn; cases hn
theorem operS_faults {f : Nat} {K L : LitR} {S : LstR} (hK : Goes K) (hG : Goes L) {b : Nat} (hS : Faults S b) (k : Int) (t : Tk) : Faults (operS (typF f) K L S k t) b := by
 intro c hc hl hn
 have h1 := opC_stp hc
 have h2 := h1.trans (varsS_stp (f := f) hK h1.ok)
 exact bodyS_faults hG hS _ _ _ _ _ _ h2.ok (by rw [h2.ts]; have := h2.ix; omega) hn
theorem fragS_faults {L : LitR} {S : LstR} (hG : Goes L) {b : Nat} (hS : Faults S b) (t : Tk) : Faults (fragS L S t) b := by
 intro c hc hl hn
 have h1 := fragC_stp hc
 have h2 := h1.trans (fragO_stp h1.ok)
 have h3 := h2.trans (name_stp h2.ok)
 exact bodyS_faults hG hS _ _ _ _ _ _ h3.ok (by rw [h3.ts]; have := h3.ix; omega) hn
theorem defS_faults {f : Nat} {K L : LitR} {S : LstR} (hK : Goes K) (hG : Goes L) {b : Nat} (hS : Faults S b) : Faults (defS (typF f) K L S) b := by
 intro c hc hl hn
 unfold defS at hn ⊢
 by_cases hp : c.isP bLc = true
 ·rw [if_pos hp] at hn ⊢
  cases hq : (S c).1 with
  | none => exact hS c hc hl hq
  | some ss => rw [hq] at hn; cases hn
 ·rw [if_neg hp] at hn ⊢
  by_cases hw : c.isW [bQuery, bMut, bSub, bFrag] = true
  ·rw [if_pos hw] at hn ⊢
   have h1 := takeN hc (isW_N hw)
   have hl1 : c.take.ts.length ≤ b + c.take.ix := by rw [h1.ts]; have := h1.ix; omega
   split at hn
   ·rename_i e; rw [if_pos e]; exact operS_faults hK hG hS _ _ _ h1.ok hl1 hn
   ·rename_i e1
    rw [if_neg e1]
    split at hn
    ·rename_i e; rw [if_pos e]; exact operS_faults hK hG hS _ _ _ h1.ok hl1 hn
    ·rename_i e2
     rw [if_neg e2]
     split at hn
     ·rename_i e; rw [if_pos e]; exact operS_faults hK hG hS _ _ _ h1.ok hl1 hn
     ·rename_i e3; rw [if_neg e3]; exact fragS_faults hG hS _ _ h1.ok hl1 hn
  ·rw [if_neg hw]
   exact stop_kd _ _ (by decide)
theorem defsF_faults {D : LitR} (hG : Goes D) {b : Nat} (hD : Faults D b) : ∀ (g : Nat) (l : List Dt) (c : Cu), c.Ok → c.ts.length ≤ b + c.ix → c.ts.length ≤ g + c.ix → (defsF D g l c).1 = none → (defsF D g l c).2.kd ≠ 0
 | 0, l, c, h, hb, hg, hn => by have := h.lt; omega
 | g + 1, l, c, h, hb, hg, hn => by
  simp only [defsF] at hn ⊢
  by_cases hc : l.length = 0 ∨ c.tok.k ≠ 0
  ·rw [if_pos hc] at hn
   rw [if_pos hc]
   have hs := hG c h
   cases hq : (D c).1 with
   | none => exact hD c h hb hq
   | some d =>
    rw [hq] at hn
    have hi := hs.2 (by rw [hq]; rfl)
    exact defsF_faults hG hD g _ _ hs.1.ok (by rw [hs.1.ts]; omega) (by rw [hs.1.ts]; omega) hn
  ·rw [if_neg hc] at hn
   rw [if_neg hc]
   show c.fin.kd ≠ 0
   unfold Cu.fin
   cases hf : c.finB with
   | true => rw [hf] at hn; cases hn
   | false => rw [if_neg (by decide)]; exact stop_kd _ _ (by decide)
theorem docS_faults (c : Cu) (h : c.Ok) (hn : (docS c).1 = none) : (docS c).2.kd ≠ 0 :=
 defsF_faults (defN_goes _) (defS_faults (litF_goes true _) (litF_goes false _) (selsF_faults (litF_goes false _) (litF_faults false _) _ (Nat.le_refl _))) _ _ c h (by omega) (by omega) hn
def docG (z : List Int) (d : Int) : Option (List Dt) × Cu := docS (newG z d)
section
variable {M b : Nat}
end
open Go.ChangeShapes Go.WideShapes Go.ChangeAt Go.RowKit
open ints (hide unhide)
open dt (Dt Kp RowAt Ow Grow OwIn)
open mem (Row)
theorem lit_cells {w : World} {k : Int} {tx : ByteArray} {bl : Bool} {its fls : List Dt} {ln co : Int} {cs : List Value} {F : List Nat} (h : Ow w (litD k tx bl (Dt.of its) (Dt.of fls) ln co) cs F) :
  ∃ ai ni ci af nf cf, cs = [.int .i64 k, .string tx, .bool bl, .slice ai ni ci, .slice af nf cf, .int .i64 ln, .int .i64 co] ∧ ni = its.length ∧ nf = fls.length ∧ ni ≤ ci ∧ nf ≤ cf ∧ ci ≤ maxLen ∧ cf ≤ maxLen ∧
   (∀ i e, its[i]? = some e → ∃ p ds G, ai = some ⟨p, 0, none⟩ ∧ p ∈ F ∧ RowAt w p (i * 7) ds ∧ ds.length = 7 ∧ Ow w e ds G ∧ ∀ b ∈ G, b ∈ F) ∧
   (∀ i e, fls[i]? = some e → ∃ p ds G, af = some ⟨p, 0, none⟩ ∧ p ∈ F ∧ RowAt w p (i * 10) ds ∧ ds.length = 10 ∧ Ow w e ds G ∧ ∀ b ∈ G, b ∈ F) := by
 unfold litD at h
 unfold Ow at h
 obtain ⟨d1, rfl, _, h⟩ := h
 unfold Ow at h
 obtain ⟨d2, rfl, _, h⟩ := h
 unfold Ow at h
 obtain ⟨d3, rfl, _, h⟩ := h
 unfold Ow at h
 obtain ⟨ai, ni, ci, d4, F1, F2, rfl, i1, i2, i3, i4, h, rfl⟩ := h
 unfold Ow at h
 obtain ⟨af, nf, cf, d5, F3, F4, rfl, j1, j2, j3, j4, h, rfl⟩ := h
 unfold Ow at h
 obtain ⟨d6, rfl, _, h⟩ := h
 unfold Ow at h
 obtain ⟨d7, rfl, _, h⟩ := h
 unfold Ow at h
 obtain ⟨rfl, rfl⟩ := h
 have key : ∀ (l : List Dt) (k : Nat) (a : Option Addr) (n : Nat) (G0 : List Nat), ((a = none ∧ Dt.of l = .nil ∧ n = 0 ∧ G0 = []) ∨ ∃ p G, a = some ⟨p, 0, none⟩ ∧ G0 = p :: G ∧ OwIn w (Dt.of l) k p 0 n G) → n = l.length ∧ ∀ i e, l[i]? = some e → ∃ p ds G, a = some ⟨p, 0, none⟩ ∧ p ∈ G0 ∧ RowAt w p (i * k) ds ∧ ds.length = k ∧ Ow w e ds G ∧ ∀ b ∈ G, b ∈ G0 := by
  intro l k a n G0 h
  rcases h with ⟨_, h2, h3, _⟩ | ⟨p, G, rfl, rfl, h⟩
  ·cases l with
   | nil => exact ⟨h3, fun i e he => by simp at he⟩
   | cons d l => unfold Dt.of at h2; cases h2
  ·obtain ⟨h1, h2⟩ := OwIn.get l k p 0 n G h
   refine ⟨h1.symm, fun i e he => ?_⟩
   obtain ⟨ds, Gi, g1, g2, g3, g4⟩ := h2 i e he
   exact ⟨p, ds, Gi, rfl, by simp, by simpa using g1, g2, g3, fun b hb => by simp [g4 b hb]⟩
 obtain ⟨e1, e2⟩ := key its 7 ai ni F1 i4
 obtain ⟨e3, e4⟩ := key fls 10 af nf F3 j4
 refine ⟨ai, ni, ci, af, nf, cf, rfl, e1, e3, i1, j1, i2, j2, fun i e he => ?_, fun i e he => ?_⟩
 ·obtain ⟨p, ds, G, g1, g2, g3, g4, g5, g6⟩ := e2 i e he
  exact ⟨p, ds, G, g1, by simp [g2], g3, g4, g5, fun b hb => by simp [g6 b hb]⟩
 ·obtain ⟨p, ds, G, g1, g2, g3, g4, g5, g6⟩ := e4 i e he
  exact ⟨p, ds, G, g1, by simp [g2], g3, g4, g5, fun b hb => by simp [g6 b hb]⟩
theorem fld_cells {w : World} {nm : ByteArray} {k : Int} {tx : ByteArray} {bl : Bool} {its fls : Dt} {ln co x y : Int} {cs : List Value} {F : List Nat} (h : Ow w (fldD nm (litD k tx bl its fls ln co) x y) cs F) :
  ∃ ai ni ci af nf cf, cs = [.string nm, .int .i64 k, .string tx, .bool bl, .slice ai ni ci, .slice af nf cf, .int .i64 ln, .int .i64 co, .int .i64 x, .int .i64 y] ∧ Ow w (litD k tx bl its fls ln co) [.int .i64 k, .string tx, .bool bl, .slice ai ni ci, .slice af nf cf, .int .i64 ln, .int .i64 co] F := by
 unfold fldD litD at h
 simp only [app] at h
 unfold Ow at h
 obtain ⟨d0, rfl, _, h⟩ := h
 unfold Ow at h
 obtain ⟨d1, rfl, a1, h⟩ := h
 unfold Ow at h
 obtain ⟨d2, rfl, a2, h⟩ := h
 unfold Ow at h
 obtain ⟨d3, rfl, a3, h⟩ := h
 unfold Ow at h
 obtain ⟨ai, ni, ci, d4, F1, F2, rfl, i1, i2, i3, i4, h, rfl⟩ := h
 unfold Ow at h
 obtain ⟨af, nf, cf, d5, F3, F4, rfl, j1, j2, j3, j4, h, rfl⟩ := h
 unfold Ow at h
 obtain ⟨d6, rfl, a6, h⟩ := h
 unfold Ow at h
 obtain ⟨d7, rfl, a7, h⟩ := h
 unfold Ow at h
 obtain ⟨d8, rfl, a8, h⟩ := h
 unfold Ow at h
 obtain ⟨d9, rfl, a9, h⟩ := h
 unfold Ow at h
 obtain ⟨rfl, rfl⟩ := h
 refine ⟨ai, ni, ci, af, nf, cf, rfl, ?_⟩
 unfold litD Ow
 refine ⟨_, rfl, a1, ?_⟩
 unfold Ow
 refine ⟨_, rfl, a2, ?_⟩
 unfold Ow
 refine ⟨_, rfl, a3, ?_⟩
 unfold Ow
 refine ⟨ai, ni, ci, _, F1, F3 ++ [], rfl, i1, i2, i3, i4, ?_, rfl⟩
 unfold Ow
 refine ⟨af, nf, cf, _, F3, [], rfl, j1, j2, j3, j4, ?_, rfl⟩
 unfold Ow
 refine ⟨_, rfl, a6, ?_⟩
 unfold Ow
 refine ⟨_, rfl, a7, ?_⟩
 unfold Ow
 exact ⟨rfl, rfl⟩
structure FvI (w wr : World) (vc : Array Value) : Prop where
 bel : Below w.heap.size w wr
 v : wr.heap[w.heap.size]? = some (.cells vc 70 (0, 0))
 r : wr.heap[w.heap.size + 1]? = some (.cells #[.int .i64 0, .int .i64 0] 28 (0, 0))
def EqL (pl : Bool) : Nat → Dt → Dt → Prop
 | 0, _, _ => False
 | f + 1, d, e => ∃ k tx bl its its' fls fls' ln co ln' co', d = litD k tx bl (Dt.of its) (Dt.of fls) ln co ∧ e = litD k tx bl (Dt.of its') (Dt.of fls') ln' co' ∧ (pl = true → ln = ln' ∧ co = co') ∧
   its.length = its'.length ∧ fls.length = fls'.length ∧ (∀ (i : Nat) x y, its[i]? = some x → its'[i]? = some y → EqL pl f x y) ∧
   (∀ (i : Nat) x y, fls[i]? = some x → fls'[i]? = some y → ∃ nm v v' a b a' b', x = fldD nm v a b ∧ y = fldD nm v' a' b' ∧ (pl = true → a = a' ∧ b = b') ∧ EqL pl f v v')
theorem EqL.left {pl : Bool} : ∀ {f : Nat} {d e : Dt}, EqL pl f d e → ∃ k tx bl its fls ln co, d = litD k tx bl its fls ln co
 | 0, d, e, h => h.elim
 | f + 1, d, e, ⟨k, tx, bl, its, its', fls, fls', ln, co, ln', co', h, _⟩ => ⟨k, tx, bl, _, _, ln, co, h⟩
theorem EqL.right {pl : Bool} : ∀ {f : Nat} {d e : Dt}, EqL pl f d e → ∃ k tx bl its fls ln co, e = litD k tx bl its fls ln co
 | 0, d, e, h => h.elim
 | f + 1, d, e, ⟨k, tx, bl, its, its', fls, fls', ln, co, ln', co', _, h, _⟩ => ⟨k, tx, bl, _, _, ln', co', h⟩
theorem lit_shape {w : World} {k : Int} {tx : ByteArray} {bl : Bool} {its fls : Dt} {ln co : Int} {cs : List Value} {F : List Nat} (h : Ow w (litD k tx bl its fls ln co) cs F) : LShape cs := by
 unfold litD at h
 unfold Ow at h
 obtain ⟨d1, rfl, _, h⟩ := h
 unfold Ow at h
 obtain ⟨d2, rfl, _, h⟩ := h
 unfold Ow at h
 obtain ⟨d3, rfl, _, h⟩ := h
 unfold Ow at h
 obtain ⟨ai, ni, ci, d4, F1, F2, rfl, i1, i2, i3, i4, h, rfl⟩ := h
 unfold Ow at h
 obtain ⟨af, nf, cf, d5, F3, F4, rfl, j1, j2, j3, j4, h, rfl⟩ := h
 unfold Ow at h
 obtain ⟨d6, rfl, _, h⟩ := h
 unfold Ow at h
 obtain ⟨d7, rfl, _, h⟩ := h
 unfold Ow at h
 obtain ⟨rfl, rfl⟩ := h
 exact ⟨_, _, _, _, _, _, _, _, _, _, _, rfl⟩
def SmAt (pl : Bool) (d e : Dt) : Prop := ∀ (w : World) (cs ds : List Value) (F G : List Nat), Ow w d cs F → Ow w e ds G → (∀ b ∈ F, b < w.heap.size) → (∀ b ∈ G, b < w.heap.size) → Calls Tryz.prog 34 #[.agg cs.toArray, .agg ds.toArray, .bool pl] w fun e w' => e = .returned (.bool true) ∧ Below w.heap.size w w'
structure SmI (w wr : World) (vc uc : Array Value) : Prop where
 bel : Below w.heap.size w wr
 v : wr.heap[w.heap.size]? = some (.cells vc 70 (0, 0))
 u : wr.heap[w.heap.size + 1]? = some (.cells uc 70 (0, 0))
theorem SmI.more {w wr wn : World} {vc uc : Array Value} (h : SmI w wr vc uc) (hb : Below wr.heap.size wr wn) : SmI w wn vc uc := by
 have h1 : w.heap.size < wr.heap.size := by
  rcases Nat.lt_or_ge w.heap.size wr.heap.size with g | g
  ·exact g
  ·have := h.v; rw [Array.getElem?_eq_none g] at this; cases this
 have h2 : w.heap.size + 1 < wr.heap.size := by
  rcases Nat.lt_or_ge (w.heap.size + 1) wr.heap.size with g | g
  ·exact g
  ·have := h.u; rw [Array.getElem?_eq_none g] at this; cases this
 exact ⟨h.bel.trans (hb.mono h.bel.size), (hb.block _ h1).trans h.v, (hb.block _ h2).trans h.u⟩
def EqLs (R : Dt → Dt → Prop) (l l' : List Dt) : Prop := l.length = l'.length ∧ ∀ (i : Nat) x y, l[i]? = some x → l'[i]? = some y → R x y
def EqA (pl : Bool) (f : Nat) (x y : Dt) : Prop := ∃ nm v v' a b a' b', x = fldD nm v a b ∧ y = fldD nm v' a' b' ∧ (pl = true → a = a' ∧ b = b') ∧ EqL pl f v v'
def EqR (pl : Bool) (f : Nat) (x y : Dt) : Prop := ∃ nm l l' a b a' b', x = dirD nm l a b ∧ y = dirD nm l' a' b' ∧ (pl = true → a = a' ∧ b = b') ∧ EqLs (EqA pl f) l l'
def EqS (pl : Bool) (f : Nat) : Nat → Dt → Dt → Prop
 | 0, _, _ => False
 | g + 1, x, y => ∃ k al nm on ars ars' ds ds' ss ss' a b a' b', x = selD k al nm on ars ds ss a b ∧ y = selD k al nm on ars' ds' ss' a' b' ∧ (pl = true → a = a' ∧ b = b') ∧ EqLs (EqA pl f) ars ars' ∧ EqLs (EqR pl f) ds ds' ∧ EqLs (EqS pl f g) ss ss'
def Ls (w : World) (k : Nat) (l : List Dt) (a : Option Addr) (F : List Nat) : Prop := l = [] ∨ ∃ p off, a = some ⟨p, off, none⟩ ∧ p ∈ F ∧ ∀ (i : Nat) e, l[i]? = some e → ∃ ds G, RowAt w p (off + i * k) ds ∧ ds.length = k ∧ Ow w e ds G ∧ ∀ b ∈ G, b ∈ F
theorem Ls.below {w w' : World} {k : Nat} {l : List Dt} {a : Option Addr} {F : List Nat} (h : Ls w k l a F) (hF : ∀ b ∈ F, b < w.heap.size) (hb : Below w.heap.size w w') : Ls w' k l a F := by
 rcases h with h | ⟨p, off, ha, hp, h⟩
 ·exact .inl h
 ·refine .inr ⟨p, off, ha, hp, fun i e he => ?_⟩
  obtain ⟨ds, G, h1, h2, h3, h4⟩ := h i e he
  exact ⟨ds, G, h1.below hb, h2, dt.Ow.agree e ds G (fun b hb' o => hb.cell (p := ⟨b, o, none⟩) (hF b (h4 b hb'))) h3, h4⟩
theorem Ls.mono {w : World} {k : Nat} {l : List Dt} {a : Option Addr} {F F' : List Nat} (h : Ls w k l a F) (hF : ∀ b ∈ F, b ∈ F') : Ls w k l a F' := by
 rcases h with h | ⟨p, off, ha, hp, h⟩
 ·exact .inl h
 ·refine .inr ⟨p, off, ha, hF p hp, fun i e he => ?_⟩
  obtain ⟨ds, G, h1, h2, h3, h4⟩ := h i e he
  exact ⟨ds, G, h1, h2, h3, fun b hb => hF b (h4 b hb)⟩
theorem lst_ls {w : World} {k n : Nat} {l : List Dt} {a : Option Addr} {F : List Nat} (h : (a = none ∧ Dt.of l = .nil ∧ n = 0 ∧ F = []) ∨ ∃ p G, a = some ⟨p, 0, none⟩ ∧ F = p :: G ∧ OwIn w (Dt.of l) k p 0 n G) : n = l.length ∧ Ls w k l a F := by
 rcases h with ⟨h1, h2, h3, h4⟩ | ⟨p, G, h1, rfl, h3⟩
 ·have : l = [] := by
   cases l with
   | nil => rfl
   | cons e r => simp [Dt.of] at h2
  exact ⟨by rw [this, h3]; rfl, .inl this⟩
 ·obtain ⟨h4, h5⟩ := dt.OwIn.get l k p 0 n G h3
  refine ⟨h4.symm, .inr ⟨p, 0, h1, List.mem_cons_self .., fun i e he => ?_⟩⟩
  obtain ⟨cs, Gi, h6, h7, h8, h9⟩ := h5 i e he
  exact ⟨cs, Gi, h6, h7, h8, fun b hb => List.mem_cons_of_mem _ (h9 b hb)⟩
theorem dir_cells {w : World} {nm : ByteArray} {l : List Dt} {x y : Int} {cs : List Value} {F : List Nat} (h : Ow w (dirD nm l x y) cs F) :
  ∃ a c, cs = [.string nm, .slice a l.length c, .int .i64 x, .int .i64 y] ∧ l.length ≤ c ∧ c ≤ maxLen ∧ Ls w 10 l a F := by
 unfold dirD Ow at h
 obtain ⟨d0, rfl, _, h⟩ := h
 unfold Ow at h
 obtain ⟨a, n, c, d1, F1, F2, rfl, i1, i2, i3, i4, h, rfl⟩ := h
 obtain ⟨rfl, hl⟩ := lst_ls i4
 unfold Ow at h
 obtain ⟨d2, rfl, a6, h⟩ := h
 unfold Ow at h
 obtain ⟨d3, rfl, a7, h⟩ := h
 unfold Ow at h
 obtain ⟨rfl, rfl⟩ := h
 exact ⟨a, c, rfl, i1, i2, hl.mono (fun b hb => List.mem_append_left _ hb)⟩
theorem sel_cells {w : World} {k : Int} {al nm on : ByteArray} {ars ds ss : List Dt} {x y : Int} {cs : List Value} {F : List Nat} (h : Ow w (selD k al nm on ars ds ss x y) cs F) :
  ∃ a1 c1 a2 c2 a3 c3, cs = [.int .i64 k, .string al, .string nm, .string on, .slice a1 ars.length c1, .slice a2 ds.length c2, .slice a3 ss.length c3, .int .i64 x, .int .i64 y] ∧ (ars.length ≤ c1 ∧ c1 ≤ maxLen ∧ ds.length ≤ c2 ∧ c2 ≤ maxLen ∧ ss.length ≤ c3 ∧ c3 ≤ maxLen) ∧ Ls w 10 ars a1 F ∧ Ls w 4 ds a2 F ∧ Ls w 9 ss a3 F := by
 unfold selD Ow at h
 obtain ⟨d0, rfl, _, h⟩ := h
 unfold Ow at h
 obtain ⟨d1, rfl, _, h⟩ := h
 unfold Ow at h
 obtain ⟨d2, rfl, _, h⟩ := h
 unfold Ow at h
 obtain ⟨d3, rfl, _, h⟩ := h
 unfold Ow at h
 obtain ⟨a1, n1, c1, d4, F1, F1', rfl, i1, i2, i3, i4, h, rfl⟩ := h
 obtain ⟨rfl, hl1⟩ := lst_ls i4
 unfold Ow at h
 obtain ⟨a2, n2, c2, d5, F2, F2', rfl, j1, j2, j3, j4, h, rfl⟩ := h
 obtain ⟨rfl, hl2⟩ := lst_ls j4
 unfold Ow at h
 obtain ⟨a3, n3, c3, d6, F3, F3', rfl, k1, k2, k3, k4, h, rfl⟩ := h
 obtain ⟨rfl, hl3⟩ := lst_ls k4
 unfold Ow at h
 obtain ⟨d7, rfl, a6, h⟩ := h
 unfold Ow at h
 obtain ⟨d8, rfl, a7, h⟩ := h
 unfold Ow at h
 obtain ⟨rfl, rfl⟩ := h
 exact ⟨a1, c1, a2, c2, a3, c3, rfl, ⟨i1, i2, j1, j2, k1, k2⟩, hl1.mono (fun b hb => List.mem_append_left _ hb), hl2.mono (fun b hb => List.mem_append_right _ (List.mem_append_left _ hb)), hl3.mono (fun b hb => List.mem_append_right _ (List.mem_append_right _ (List.mem_append_left _ hb)))⟩
theorem def_cells {w : World} {k : Int} {nm on : ByteArray} {sh : Bool} {vs ds ss : List Dt} {x y : Int} {cs : List Value} {F : List Nat} (h : Ow w (defD k nm on sh vs ds ss x y) cs F) :
  ∃ a1 c1 a2 c2 a3 c3, cs = [.int .i64 k, .string nm, .string on, .bool sh, .slice a1 vs.length c1, .slice a2 ds.length c2, .slice a3 ss.length c3, .int .i64 x, .int .i64 y] ∧ (vs.length ≤ c1 ∧ c1 ≤ maxLen ∧ ds.length ≤ c2 ∧ c2 ≤ maxLen ∧ ss.length ≤ c3 ∧ c3 ≤ maxLen) ∧ Ls w 14 vs a1 F ∧ Ls w 4 ds a2 F ∧ Ls w 9 ss a3 F := by
 unfold defD Ow at h
 obtain ⟨d0, rfl, _, h⟩ := h
 unfold Ow at h
 obtain ⟨d1, rfl, _, h⟩ := h
 unfold Ow at h
 obtain ⟨d2, rfl, _, h⟩ := h
 unfold Ow at h
 obtain ⟨d3, rfl, _, h⟩ := h
 unfold Ow at h
 obtain ⟨a1, n1, c1, d4, F1, F1', rfl, i1, i2, i3, i4, h, rfl⟩ := h
 obtain ⟨rfl, hl1⟩ := lst_ls i4
 unfold Ow at h
 obtain ⟨a2, n2, c2, d5, F2, F2', rfl, j1, j2, j3, j4, h, rfl⟩ := h
 obtain ⟨rfl, hl2⟩ := lst_ls j4
 unfold Ow at h
 obtain ⟨a3, n3, c3, d6, F3, F3', rfl, k1, k2, k3, k4, h, rfl⟩ := h
 obtain ⟨rfl, hl3⟩ := lst_ls k4
 unfold Ow at h
 obtain ⟨d7, rfl, a6, h⟩ := h
 unfold Ow at h
 obtain ⟨d8, rfl, a7, h⟩ := h
 unfold Ow at h
 obtain ⟨rfl, rfl⟩ := h
 exact ⟨a1, c1, a2, c2, a3, c3, rfl, ⟨i1, i2, j1, j2, k1, k2⟩, hl1.mono (fun b hb => List.mem_append_left _ hb), hl2.mono (fun b hb => List.mem_append_right _ (List.mem_append_left _ hb)), hl3.mono (fun b hb => List.mem_append_right _ (List.mem_append_right _ (List.mem_append_left _ hb)))⟩
def EqT (pl : Bool) (t t' : Tk) : Prop := t'.k = t.k ∧ t'.tx = t.tx ∧ t'.va = t.va ∧ (pl = true → t.ln = t'.ln ∧ t.co = t'.co)
structure Sf (pl : Bool) (m s e : Nat) (c c' : Cu) : Prop where
 ix : c'.ix = c.ix + s
 op : c'.op = c.op + e
 mo : c'.mo = c.mo + e
 kd : c'.kd = c.kd
 tk : ∀ i, i ≤ m → EqT pl (c.ts.getD i Tk.zero) (c'.ts.getD (i + s) Tk.zero)
def Ps {A : Type} (e : Nat) (c : Cu) (E : Cu → A × Cu) : Prop := e = 0 ∨ (Inv c ∧ c.kd = 0 ∧ (E c).2.kd = 0)
section
variable {pl : Bool} {m s e : Nat}
theorem Sf.tok {c c' : Cu} (h : Sf pl m s e c c') (hi : c.ix ≤ m) : EqT pl c.tok c'.tok := by
 have := h.tk c.ix hi
 rw [← h.ix] at this
 exact this
theorem Sf.isP {c c' : Cu} (h : Sf pl m s e c c') (hi : c.ix ≤ m) (p : ByteArray) : c'.isP p = c.isP p := by
 have t := h.tok hi
 unfold Cu.isP
 rw [h.kd, t.1, t.2.1]
theorem Sf.isN {c c' : Cu} (h : Sf pl m s e c c') (hi : c.ix ≤ m) : c'.isN = c.isN := by
 have t := h.tok hi
 unfold Cu.isN
 rw [h.kd, t.1]
theorem Sf.isW {c c' : Cu} (h : Sf pl m s e c c') (hi : c.ix ≤ m) (ws : List ByteArray) : c'.isW ws = c.isW ws := by
 have t := h.tok hi
 unfold Cu.isW
 rw [h.isN hi, t.2.1]
theorem Sf.take {c c' : Cu} (h : Sf pl m s e c c') : Sf pl m s e c.take c'.take := ⟨by show c'.ix + 1 = c.ix + 1 + s; rw [h.ix]; omega, h.op, h.mo, h.kd, h.tk⟩
theorem Sf.stop {c c' : Cu} (h : Sf pl m s e c c') (k : Int) : Sf pl m s e (c.stop k) (c'.stop k) := by
 unfold Cu.stop
 rw [h.kd]
 split
 ·exact ⟨h.ix, h.op, h.mo, rfl, h.tk⟩
 ·exact h
theorem Sf.nmC {c c' : Cu} (h : Sf pl m s e c c') (so : Bool) : Sf pl m s e (c.nmC so) (c'.nmC so) := by
 cases so
 ·exact h.stop 70
 ·exact h.take
theorem Sf.name {c c' : Cu} (h : Sf pl m s e c c') (hi : c.ix ≤ m) : Sf pl m s e c.name c'.name := by
 unfold Cu.name
 rw [h.isN hi]
 split
 ·exact h.take
 ·exact h.stop 70
theorem Sf.want {c c' : Cu} (h : Sf pl m s e c c') (hi : c.ix ≤ m) (p : ByteArray) : Sf pl m s e (c.want p) (c'.want p) := by
 unfold Cu.want
 rw [h.isP hi]
 split
 ·exact h.take
 ·exact h.stop 70
theorem Sf.punct {c c' : Cu} (h : Sf pl m s e c c') (hi : c.ix ≤ m) (p : ByteArray) : Sf pl m s e (c.punct p) (c'.punct p) := by
 unfold Cu.punct
 rw [h.isP hi]
 split
 ·exact h.take
 ·exact h
theorem Sf.word {c c' : Cu} (h : Sf pl m s e c c') (hi : c.ix ≤ m) (q : ByteArray) : Sf pl m s e (c.word q) (c'.word q) := by
 unfold Cu.word
 rw [h.isW hi]
 split
 ·exact h.take
 ·exact h
theorem Sf.opB {c c' : Cu} (h : Sf pl m s e c c') (hi : c.ix ≤ m) (p : ByteArray) : c'.opB p = c.opB p := by
 unfold Cu.opB
 rw [h.isP hi, h.op, h.mo]
 congr 1
 exact decide_eq_decide.2 (by omega)
theorem Sf.opn {c c' : Cu} (h : Sf pl m s e c c') (hi : c.ix ≤ m) (p : ByteArray) : Sf pl m s e (c.opn p) (c'.opn p) := by
 unfold Cu.opn
 rw [h.isP hi]
 split
 ·have hx := h.op
  have hy := h.mo
  by_cases g : c.op < c.mo
  ·rw [if_pos g, if_pos (by omega)]
   exact ⟨by show c'.ix + 1 = c.ix + 1 + s; rw [h.ix]; omega, by show c'.op + 1 = c.op + 1 + e; omega, hy, h.kd, h.tk⟩
  ·rw [if_neg g, if_neg (by omega)]
   exact h.stop 71
 ·exact h.stop 70
theorem Sf.cls {c c' : Cu} (h : Sf pl m s e c c') (hi : c.ix ≤ m) (p : ByteArray) (he : e = 0 ∨ 1 ≤ c.op) : Sf pl m s e (c.cls p) (c'.cls p) := by
 unfold Cu.cls
 rw [h.isP hi]
 split
 ·have hx := h.op
  exact ⟨by show c'.ix + 1 = c.ix + 1 + s; rw [h.ix]; omega, by show c'.op - 1 = c.op - 1 + e; omega, h.mo, h.kd, h.tk⟩
 ·exact h.stop 70
end
structure Ok4 {A X : Type} (pl : Bool) (m s e : Nat) (P : Prop) (V : A → X → Prop) (E : Cu → A × Cu) (E' : Cu → X × Cu) (b b' : Nat) : Prop where
 o : Ok3 0 E b
 st' : St E'
 near : P → ∀ c c', c.Ok → c'.Ok → Sf pl m s e c c' → c.ts.length ≤ b + c.ix → c'.ts.length ≤ b' + c'.ix → Ps e c E → (E c).2.ix ≤ m → V (E c).1 (E' c').1 ∧ Sf pl m s e (E c).2 (E' c').2
structure Ok5 {A X : Type} (pl : Bool) (m s e : Nat) (P : Prop) (V : Option A → Option X → Prop) (E : Cu → Option A × Cu) (E' : Cu → Option X × Cu) (b b' : Nat) : Prop where
 o : Ok3 0 E b
 st' : St E'
 go : ∀ c, c.Ok → (E c).1.isSome = true → c.ix < (E c).2.ix
 near : P → ∀ c c', c.Ok → c'.Ok → Sf pl m s e c c' → c.ts.length ≤ b + c.ix → c'.ts.length ≤ b' + c'.ix → Ps e c E → (E c).1.isSome = true → (E c).2.ix ≤ m + 1 → V (E c).1 (E' c').1 ∧ Sf pl m s e (E c).2 (E' c').2
section
variable {pl : Bool} {m s e : Nat} {P : Prop} {b b' : Nat}
theorem Ps.one {A X : Type} {E : Cu → A × Cu} {F : A → Cu → X × Cu} {c : Cu} (sF : ∀ a, Sti (F a)) (h : Ps e c (bnd E F)) : Ps e c E := by
 rcases h with h | ⟨h1, h2, h3⟩
 ·exact .inl h
 ·refine .inr ⟨h1, h2, Classical.byContradiction fun x => ?_⟩
  have h4 : (F (E c).1 (E c).2).2.kd = 0 := h3
  rw [sF _ _ x] at h4
  exact x h4
theorem Ps.two {A X : Type} {E : Cu → A × Cu} {F : A → Cu → X × Cu} {c : Cu} (o : Ok3 0 E b) (sF : ∀ a, Sti (F a)) (hc : c.Ok) (hb : c.ts.length ≤ b + c.ix) (h : Ps e c (bnd E F)) : Ps e (E c).2 (F (E c).1) := by
 have h5 := h.one sF
 rcases h with h | ⟨h1, h2, h3⟩
 ·exact .inl h
 ·rcases h5 with h5 | ⟨_, _, h6⟩
  ·exact .inl h5
  ·exact .inr ⟨(o.bal c hc hb h1 h2 h6).2, h6, h3⟩
theorem Ok4.bnd {A X Y Z : Type} {V : A → X → Prop} {V' : Y → Z → Prop} {E : Cu → A × Cu} {E' : Cu → X × Cu} {F : A → Cu → Y × Cu} {F' : X → Cu → Z × Cu} [Nonempty A] [Nonempty X] (h : Ok4 pl m s e P V E E' b b') (k : ∀ a a', Ok4 pl m s e (P ∧ V a a') V' (F a) (F' a') b b') : Ok4 pl m s e P V' (bnd E F) (bnd E' F') b b' := by
 have oF : ∀ a, Ok3 0 (F a) b := fun a => (k a (Classical.choice inferInstance)).o
 have sF' : ∀ a', St (F' a') := fun a' => (k (Classical.choice inferInstance) a').st'
 refine ⟨h.o.bnd oF, h.st'.bnd sF', fun hp c c' hc hc' hs hb hb' hP hm => ?_⟩
 have s1 := h.o.st c hc
 have s2 := h.st' c' hc'
 have t1 := (oF (E c).1).st _ s1.ok
 obtain ⟨e1, e2⟩ := h.near hp c c' hc hc' hs hb hb' (hP.one fun a => (oF a).sti) (Nat.le_trans t1.ix hm)
 exact (k (E c).1 (E' c').1).near ⟨hp, e1⟩ (E c).2 (E' c').2 s1.ok s2.ok e2 (by rw [s1.ts]; have := s1.ix; omega) (by rw [s2.ts]; have := s2.ix; omega) (hP.two h.o (fun a => (oF a).sti) hc hb) hm
theorem Ok4.mono {A X : Type} {V : A → X → Prop} {E : Cu → A × Cu} {E' : Cu → X × Cu} {d d' : Nat} (h : Ok4 pl m s e P V E E' b b') (hd : d ≤ b) (hd' : d' ≤ b') : Ok4 pl m s e P V E E' d d' := ⟨h.o.mono hd, h.st', fun hp c c' hc hc' hs hb hb' => h.near hp c c' hc hc' hs (by omega) (by omega)⟩
theorem Ok4.wk {A X : Type} {V : A → X → Prop} {E : Cu → A × Cu} {E' : Cu → X × Cu} (h : Ok4 pl m s e True V E E' b b') : Ok4 pl m s e P V E E' b b' := ⟨h.o, h.st', fun _ => h.near trivial⟩
theorem cond_4 {A X : Type} {V : A → X → Prop} {q q' : Bool} {E F : Cu → A × Cu} {E' F' : Cu → X × Cu} (hq : P → q = q') (h : Ok4 pl m s e P V E E' b b') (k : Ok4 pl m s e P V F F' b b') : Ok4 pl m s e P V (cond q E F) (cond q' E' F') b b' := by
 refine ⟨cond_3 h.o k.o, by cases q'; exact k.st'; exact h.st', fun hp => ?_⟩
 obtain rfl := hq hp
 cases q
 ·exact k.near hp
 ·exact h.near hp
theorem ret_4 {A X : Type} {V : A → X → Prop} {a : A} {x : X} (h : P → V a x) : Ok4 pl m s e P V (ret a) (ret x) b b' := ⟨ret_3 _, ret_st _, fun hp c c' hc hc' hs hb hb' hP hm => ⟨h hp, hs⟩⟩
theorem tokR_4 : Ok4 pl m s e P (EqT pl) tokR tokR b b' := ⟨tokR_3, tokR_st, fun hp c c' hc hc' hs hb hb' hP hm => ⟨hs.tok hm, hs⟩⟩
theorem isPR_4 (p : ByteArray) : Ok4 pl m s e P Eq (isPR p) (isPR p) b b' := ⟨isPR_3 p, isPR_st p, fun hp c c' hc hc' hs hb hb' hP hm => ⟨(hs.isP hm p).symm, hs⟩⟩
theorem aliveR_4 : Ok4 pl m s e P Eq aliveR aliveR b b' := ⟨aliveR_3, aliveR_st, fun hp c c' hc hc' hs hb hb' hP hm => ⟨by show decide (c.kd = 0) = decide (c'.kd = 0); rw [hs.kd], hs⟩⟩
theorem sprR_4 : Ok4 pl m s e P Eq sprR sprR b b' := ⟨sprR_3, sprR_st, fun hp c c' hc hc' hs hb hb' hP hm => ⟨by show (c.isN && _) = (c'.isN && _); rw [hs.isN hm, (hs.tok hm).2.1], hs⟩⟩
theorem nmR_4 : Ok4 pl m s e P Eq nmR nmR b b' := ⟨nmR_3, nmR_st, fun hp c c' hc hc' hs hb hb' hP hm => by
 have hi : c.ix ≤ m := Nat.le_trans (name_stp hc).ix hm
 exact ⟨by show c.nmS = c'.nmS; unfold Cu.nmS; rw [hs.isN hi, (hs.tok hi).2.1], hs.name hi⟩⟩
theorem nR_4 : Ok4 pl m s e P Eq nR nR b b' := ⟨nR_3, nR_st, fun hp c c' hc hc' hs hb hb' hP hm => by
 have hi : c.ix ≤ m := Nat.le_trans (name_stp hc).ix hm
 exact ⟨by show (c.isN, c.tok.tx) = (c'.isN, c'.tok.tx); rw [hs.isN hi, (hs.tok hi).2.1], hs.name hi⟩⟩
theorem wantR_4 (p : ByteArray) (hp : dlt (pk p) = 0) : Ok4 pl m s e P Eq (wantR p) (wantR p) b b' := ⟨wantR_3 p hp, wantR_st p, fun hp c c' hc hc' hs hb hb' hP hm => by
 have hi : c.ix ≤ m := Nat.le_trans (want_stp hc p).ix hm
 exact ⟨rfl, hs.want hi p⟩⟩
theorem punctR_4 (p : ByteArray) (hp : dlt (pk p) = 0) : Ok4 pl m s e P Eq (punctR p) (punctR p) b b' := ⟨punctR_3 p hp, punctR_st p, fun hp c c' hc hc' hs hb hb' hP hm => by
 have hi : c.ix ≤ m := Nat.le_trans (punct_stp hc p).ix hm
 exact ⟨(hs.isP hi p).symm, hs.punct hi p⟩⟩
theorem wordR_4 (q : ByteArray) : Ok4 pl m s e P Eq (wordR q) (wordR q) b b' := ⟨wordR_3 q, wordR_st q, fun hp c c' hc hc' hs hb hb' hP hm => by
 have hi : c.ix ≤ m := Nat.le_trans (wordR_st q c hc).ix hm
 exact ⟨(hs.isW hi [q]).symm, hs.word hi q⟩⟩
theorem butR_4 (ws : List ByteArray) : Ok4 pl m s e P Eq (butR ws) (butR ws) b b' := ⟨butR_3 ws, butR_st ws, fun hp c c' hc hc' hs hb hb' hP hm => by
 have hi : c.ix ≤ m := Nat.le_trans (butR_st ws c hc).ix hm
 refine ⟨?_, ?_⟩
 ·show c.nmB _ = c'.nmB _
  unfold Cu.nmB
  rw [hs.isN hi, (hs.tok hi).2.1]
 ·show Sf pl m s e (c.nmC _) (c'.nmC _)
  rw [hs.isN hi, (hs.tok hi).2.1]
  exact hs.nmC _⟩
theorem stopR_4 {A X : Type} {V : A → X → Prop} {a : A} {x : X} (h : P → V a x) : Ok4 pl m s e P V (stopR a) (stopR x) b b' := ⟨stopR_3 a, stopR_st x, fun hp c c' hc hc' hs hb hb' hP hm => ⟨h hp, hs.stop 70⟩⟩
theorem takeK_4 (k : Int) (h0 : k ≠ 0) (h1 : k ≠ 1) (h2 : k ≠ 2) : Ok4 pl m s e P Eq (takeK k) (takeK k) b b' := ⟨takeK_3 k h0 h1 h2, takeK_st k h0 h1, fun hp c c' hc hc' hs hb hb' hP hm => by
 have hi : c.ix ≤ m := Nat.le_trans (takeK_st k h0 h1 c hc).ix hm
 refine ⟨rfl, ?_⟩
 show Sf pl m s e (if c.kd = 0 ∧ c.tok.k = k then c.take else c) (if c'.kd = 0 ∧ c'.tok.k = k then c'.take else c')
 rw [hs.kd, (hs.tok hi).1]
 split
 ·exact hs.take
 ·exact hs⟩
end
end Go.Proofs.YtcebeajjpcbgcaaGreat.cu
