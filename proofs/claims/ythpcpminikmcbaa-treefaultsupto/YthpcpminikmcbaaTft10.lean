import Derived.Test.YthpcpminikmcbaaTft9
import Derived.Test.YthpcpminikmcbaaTft2
import Derived.Laws.Cover1
namespace Go.Proofs.Ythpcpminikmcbaa.og
open Go.ChangeShapes Go.WideShapes Go.ChangeAt Go.RowKit Go.Shelf
open vl hiding cB cFl cS cF cI cK cIt
open stp (St Pth St3 pN pI)
set_option linter.unusedVariables false
set_option linter.unusedSimpArgs false
/-- a list of faults, to be read -/
structure FtsR (w : World) (a : Option Addr) (n c : Nat) (R : List Ft) : Prop where
  len : R.length = n
  le : n ≤ c
  nil : a = none → c = 0
  at_ : n = 0 ∨ ∃ b off, a = some ⟨b, off, none⟩ ∧ b < w.heap.size ∧ ∀ (k : Nat) (f : Ft), R[k]? = some f → ∃ cs, w.rangeAt b (off + k * 3) cs ∧ FtC w f cs
/-- what Faults answers -/
def FltP (w : World) (LL : List (List (Fb w))) (e : Ending) (w' : World) : Prop := ∃ (aj : Option Addr) (nj cj : Nat) (S : List (Fb w)), S.Perm LL.flatten ∧ SrtB S ∧ e = .returned (.slice aj nj cj) ∧ FtsR w' aj nj cj ((cpt S).map (fun x => can x.ft)) ∧ Below w.heap.size w w'
theorem FnM.set1 {V : World} {l : List (Fb V)} {p k : Nat} {kd : Int} {s1 s2 : Value} {w : World} (h : FnM l p k kd s1 s2 w) (hk : k < l.length) (v : Value) : FnM l p k kd v s2 (w.setCell ⟨p, k * 3 + 1, none⟩ v) := by
  have := h.set hk 1 (.inl rfl) v
  simpa using this
theorem FnM.set2 {V : World} {l : List (Fb V)} {p k : Nat} {kd : Int} {s1 s2 : Value} {w : World} (h : FnM l p k kd s1 s2 w) (hk : k < l.length) (v : Value) : FnM l p k kd s1 v (w.setCell ⟨p, k * 3 + 2, none⟩ v) := by
  have := h.set hk 2 (.inr rfl) v
  simpa using this
theorem compact_nil (c : Nat) (f : Value) (w : World) : Calls Try.prog 41 #[.slice none 0 c, f] w fun e w' => e = .returned (.slice none 0 c) ∧ w = w' := by
  go_enter Try.func41, Try.ntmps41
  go_wp2
  go_ret
  exact ⟨rfl, rfl⟩
theorem GrB.rowB {V : World} {B : Nat} {l : List (Fb V)} {g n c : Nat} {w : World} (h : GrB B l (.slice (some ⟨g, 0, none⟩) n c) w) : RowB w g l ∧ n = l.length ∧ n ≤ c ∧ c ≤ maxLen ∧ B ≤ g ∧ g < w.heap.size := by
  have hlt := h.lt g rfl
  obtain ⟨a', c', e'⟩ := grv_form h
  simp only [Value.slice.injEq] at e'
  obtain ⟨-, rfl, -⟩ := e'
  obtain ⟨xss, h1, h2⟩ := h
  obtain rfl := P2.map_of _ _ _ h2
  have hcl := h1.cells (g := g) rfl
  have hfz := fun j => h1.frozenAt j
  rcases h1.2 with ⟨e, -⟩ | ⟨g', cap, cur, e, hg, hh, hc1, hc2, r⟩
  · cases e
  · cases e
    have hrow : ∀ (i : Nat) (x : Fb V), l[i]? = some x → w.rangeAt g (i * 3) x.enc := fun i x hx j u hu => by
      have key : ∀ (l : List (Fb V)) (i : Nat) (x : Fb V), l[i]? = some x → x.enc[j]? = some u → (l.map Fb.enc).flatten[i * 3 + j]? = some u := by
        intro l
        induction l with
        | nil => intro i x hx _; simp at hx
        | cons a l ih =>
          intro i x hx hu
          rw [List.map_cons, List.flatten_cons]
          have hj : j < 3 := by have := (List.getElem?_eq_some_iff.1 hu).1; rwa [x.len] at this
          cases i with
          | zero =>
            obtain rfl : a = x := by simpa using hx
            rw [Nat.zero_mul, Nat.zero_add, List.getElem?_append_left (by rw [a.len]; exact hj)]
            exact hu
          | succ i =>
            rw [List.getElem?_append_right (by rw [a.len]; omega), a.len, show (i + 1) * 3 + j - 3 = i * 3 + j by omega]
            exact ih i x (by simpa using hx) hu
      have := hcl _ u (key l i x hx hu)
      rw [Addr.add_mid, Nat.zero_add] at this
      exact this
    refine ⟨⟨hrow, fun j hj => ⟨?_, by simpa using hfz (0 + j)⟩⟩, rfl, hc1, hc2, hlt.1, hlt.2⟩
    have hi : j / 3 < l.length := by omega
    have h3 := hrow (j / 3) _ (List.getElem?_eq_getElem hi) (j % 3) _ (List.getElem?_eq_getElem (show j % 3 < l[j / 3].enc.length by rw [Fb.len]; omega))
    rw [show j / 3 * 3 + j % 3 = j by omega] at h3
    rw [Nat.zero_add, h3]
    rfl
theorem eachS_any (ss : List St) (aq : Option Addr) (nq cq : Nat) (w : World) (hp : Pth w aq nq ss) (hn : nq ≤ 1048576) (hle : nq ≤ cq) (hnil : aq = none → cq = 0) :
    Calls Try.prog 43 #[.slice aq nq cq, .func (.func 44) #[] #[]] w fun e w' => ∃ a6 c6, e = .returned (.slice a6 nq c6) ∧ Pth w' a6 nq (ss.map pl) ∧ nq ≤ c6 ∧ (a6 = none → c6 = 0) ∧ c6 ≤ maxLen ∧ (∀ g off, a6 = some ⟨g, off, none⟩ → w.heap.size ≤ g ∧ g < w'.heap.size) ∧ Below w.heap.size w w' := by
  cases aq with
  | none =>
    obtain rfl : cq = 0 := hnil rfl
    obtain rfl : nq = 0 := by omega
    obtain rfl : ss = [] := List.eq_nil_of_length_eq_zero hp.len
    refine (eachS_nil 0 _ w).mono ?_
    rintro e w' ⟨rfl, rfl⟩
    exact ⟨none, 0, rfl, ⟨rfl, .inl rfl⟩, Nat.le_refl _, fun _ => rfl, Nat.zero_le _, fun g off e => (by cases e), Below.refl _ _⟩
  | some a =>
    refine (eachS_some ss a nq cq w hp hn).mono ?_
    rintro e w' ⟨rfl, h1, h2, hlt6⟩
    refine ⟨_, _, rfl, h1, Nat.le_refl _, fun e => (by cases e), by unfold maxLen; omega, fun g off e => ?_, h2⟩
    cases e
    refine ⟨Nat.le_refl _, ?_⟩
    exact hlt6
set_option maxHeartbeats 400000 in
set_option maxRecDepth 100000 in
theorem faults_ok (w : World) (LL : List (List (Fb w))) (a : Option Addr) (n c : Nat) (h : Lsts w a n LL) (hN : LL.flatten.length ≤ 1048576) (hn : n ≤ 1048576) : Calls Try.prog 19 #[.slice a n c] w (FltP w LL) := by
  have CC := hide (concat_ok LL a n c w h hN hn)
  have HN := hide hN
  clear h hN
  go_enter Try.func19, Try.ntmps19
  go_wp2_with fail
  refine (unhide CC).mono ?_
  rintro e w1 ⟨a1, n1, c1, rfl, hG, b1⟩
  clear CC
  rcases (show (a1 = none ∧ n1 = 0 ∧ c1 = 0 ∧ LL.flatten = []) ∨ ∃ g, a1 = some ⟨g, 0, none⟩ by
    obtain ⟨xss, h1, h2⟩ := hG
    rcases h1.2 with ⟨e, h0⟩ | ⟨g, cap, cur, e, -⟩
    · cases e; exact .inl ⟨rfl, rfl, rfl, List.eq_nil_of_length_eq_zero h0⟩
    · cases e; exact .inr ⟨g, rfl⟩) with ⟨rfl, rfl, rfl, hnil⟩ | ⟨g, rfl⟩
  · have HNl := hide hnil
    clear hnil hG
    go_wp2_with fail
    refine (AnyF.slices_SortFunc_none Try.sortFlt none 0 (.func (.func 40) #[] #[]) w1).mono ?_
    rintro e w2 ⟨rfl, rfl⟩
    go_wp2_with fail
    refine (compact_nil 0 _ _).mono ?_
    rintro e w2 ⟨rfl, rfl⟩
    go_wp2_with fail
    go_loopw [14] (fun vi wr => vi = .int .i64 0 ∧ w2 = wr) (fun _ _ => 0)
    case atStart => exact ⟨rfl, rfl⟩
    case round =>
      obtain ⟨rfl, rfl⟩ := hrel
      go_wp2
      go_ret
      exact ⟨none, 0, 0, [], by rw [unhide HNl], fun i j x y _ hx => by simp at hx, rfl, ⟨rfl, Nat.le_refl _, fun _ => rfl, .inl rfl⟩, b1⟩
  · obtain ⟨hrow, hn1, hc1, hcm, hwg, hg1⟩ := GrB.rowB hG
    have SO := hide (sortB_ok LL.flatten g n1 c1 w1 hn1.symm hg1 b1 hwg hrow (by have := unhide HN; omega))
    have HN1 := hide hn1
    have hn1b : n1 ≤ 1048576 := by have := unhide HN; omega
    clear hG hrow hn1
    go_wp2_with fail
    refine (unhide SO).mono ?_
    rintro e w2 ⟨rfl, S, hpm, hst, hrow2, b2⟩
    have hSl : S.length = n1 := by rw [hpm.length_eq, ← unhide HN1]
    have bw2 : Below w.heap.size w w2 := b1.trans (b2.mono hwg)
    have hg2 : g < w2.heap.size := Nat.lt_of_lt_of_le hg1 b2.size
    have CO := hide (compact_ok S g n1 c1 w2 hSl bw2 hwg hg2 hrow2 hn1b hc1 hcm)
    have HPM := hide hpm
    have HST := hide hst
    have HSL := hide hSl
    clear SO hpm hst hrow2 hSl
    go_wp2_with fail
    refine (unhide CO).mono ?_
    rintro e w3 ⟨m, rfl, hrow3, hm, b3⟩
    have hg3 : g < w3.heap.size := Nat.lt_of_lt_of_le hg2 b3.size
    have bw3 : Below w.heap.size w w3 := bw2.trans (b3.mono hwg)
    have hmn : m ≤ n1 := by rw [hm, ← unhide HSL]; exact cpt_le _
    have F0 := hide (show FnS (cpt S) g 0 w3 from ⟨fun i x hi => absurd hi (Nat.not_lt_zero _), fun i x _ hx => hrow3.row i x hx, hrow3.thr, hg3⟩)
    have HM := hide hm
    have hmb : m ≤ 1048576 := by omega
    clear CO hrow3 hm
    go_wp2_with fail
    go_loopw [14] (fun vi wr => ∃ k : Nat, k ≤ m ∧ vi = .int .i64 k ∧ vl.Hid (FnS (cpt S) g k wr) ∧ Below w.heap.size w wr) (fun vi _ => m - (intOf vi).toNat)
    case atStart => exact ⟨0, Nat.zero_le _, rfl, F0, bw3⟩
    case round =>
      obtain ⟨k, hk, rfl, HF, hb⟩ := hrel
      by_cases hlt : k < m
      · obtain ⟨x, hx⟩ : ∃ x, (cpt S)[k]? = some x := ⟨_, List.getElem?_eq_getElem (by rw [← unhide HM]; exact hlt)⟩
        obtain ⟨ap, np, cp, aq, nq, cq, e, p1, p2, l1, l2, l3, l4, n1', n2', m1, m2⟩ := x.2
        have hM := (unhide HF).open_ hx (show x.enc = _ from e)
        have hklen : k < (cpt S).length := by rw [← unhide HM]; exact hlt
        have c0 : wr.cell? ⟨g, k * 3, none⟩ = some (.int .i64 x.1.1.kd) := hM.here 0 _ rfl
        have c1' : wr.cell? ⟨g, k * 3 + 1, none⟩ = some (.slice ap np cp) := hM.here 1 _ rfl
        have c2 : wr.cell? ⟨g, k * 3 + 2, none⟩ = some (.slice aq nq cq) := hM.here 2 _ rfl
        have hgr := hM.lt
        have HX := hide hx
        have HM2 := hide hM
        have HP1 := hide p1
        have HP2 := hide p2
        have ki : (k : Int) < (m : Int) := by omega
        generalize hkd : x.1.1.kd = kd at *
        have HKD := hide hkd
        clear hkd
        clear hx hM e p1 p2
        have HB := hide ((Below.refl wr.heap.size wr).alloc (Nat.le_refl _) (.cells #[Value.int IntKind.i64 kd, Value.slice ap np cp, Value.slice aq nq cq] 55))
        have hne : ¬ wr.heap.size = g := by omega
        have hne' : ¬ g = wr.heap.size := by omega
        have hbx : (wr.alloc (.cells #[Value.int IntKind.i64 kd, Value.slice ap np cp, Value.slice aq nq cq] 55)).cell? ⟨wr.heap.size, 2, none⟩ = some (.slice aq nq cq) := by rw [World.cell?_alloc_at _ _ _ _ rfl]; rfl
        have HBX := hide hbx
        clear hbx
        go_wp2_with (refine wp_catP ((unhide HP1).below ((hb.alloc hb.size _))) l3 n1' l1 rfl _ _ rfl rfl rfl ?_; intro a4 c4 w4 hG4 b4; have HG4 := hide hG4; clear hG4; have hM4 := (unhide HM2).keep ((unhide HB).trans (b4.mono (by simp))); have k1 := hM4.here 1 _ rfl; have f1 : w4.frozen? ⟨g, k * 3 + 1, none⟩ = false := (by have := (hM4.thr (k * 3 + 1) (by omega)).2; simpa using this); have bx : w4.cell? ⟨wr.heap.size, 2, none⟩ = some (.slice aq nq cq) := (b4.cell (p := ⟨wr.heap.size, 2, none⟩) (by simp)).trans (unhide HBX); have HM4 := hide hM4; clear hM4; have B4 := hide b4; clear b4)
        have b4 := unhide B4
        have bw4 : Below w.heap.size w w4 := (hb.trans ((unhide HB).mono hb.size)).trans (b4.mono (by simp; exact Nat.le_trans hb.size (Nat.le_succ _)))
        obtain ⟨W5, hW5⟩ : ∃ W5, W5 = w4.setCell ⟨g, k * 3 + 1, none⟩ (.slice a4 x.val.fst.ps.length c4) := ⟨_, rfl⟩
        have hM5 : FnM (cpt S) g k kd (.slice a4 x.val.fst.ps.length c4) (.slice aq nq cq) W5 := by rw [hW5]; exact (unhide HM4).set1 hklen _
        have b5 : Below w.heap.size w W5 := by rw [hW5]; exact bw4.setCell (p := ⟨g, k * 3 + 1, none⟩) hwg _
        have a5 : ∀ b, b ≠ g → W5.heap[b]? = w4.heap[b]? := fun b hb' => by rw [hW5]; exact setCell_blk _ _ _ _ b hb'
        have z5 : W5.heap.size = w4.heap.size := by rw [hW5]; simp
        rw [← hW5]
        clear hW5 k1 f1 bx
        refine (eachS_any x.1.1.pt aq nq cq W5 ((unhide HP2).below b5) l2 l4 n2').mono ?_
        rintro e w6 ⟨a6, c6, rfl, hp6, q1, q2, q3, q4, b6⟩
        have hM6 := hM5.keep b6
        have k2 := hM6.here 2 _ rfl
        have f2 : w6.frozen? ⟨g, k * 3 + 2, none⟩ = false := by have := (hM6.thr (k * 3 + 2) (by omega)).2; simpa using this
        have b7 := hide ((b5.trans (b6.mono b5.size)).setCell (p := ⟨g, k * 3 + 2, none⟩) hwg (.slice a6 nq c6))
        have S7 := hide (show FnS (cpt S) g (k + 1) (w6.setCell ⟨g, k * 3 + 2, none⟩ (.slice a6 nq c6)) from by
          refine (hM6.set2 hklen _).shut (unhide HX) ?_
          obtain ⟨g1, g2, g3, g4, g5⟩ := (unhide HG4).pos
          have hgw : wr.heap.size + 1 ≤ w4.heap.size := by have := b4.size; simpa using this
          have hs6 : w4.heap.size ≤ w6.heap.size := by rw [← z5]; exact b6.size
          have hs7 : (w6.setCell ⟨g, k * 3 + 2, none⟩ (.slice a6 nq c6)).heap.size = w6.heap.size := by simp
          intro w' hs hbb
          refine ⟨a4, _, c4, a6, nq, c6, by rw [← unhide HKD]; rfl, g1.agree (by omega) (fun gg off e => ?_), pth_agree hp6 (by omega) (fun gg off e => ?_), by rw [(unhide HP1).len]; exact l1, l2, g2, q1, g3, q2, g4, q3⟩
          · have hh := g5 gg off e
            have hgg : gg ≠ g := by have := hh.1; simp at this; omega
            rw [hbb gg (by omega) hgg, setCell_blk _ _ _ _ gg hgg, b6.block gg (by omega), a5 gg hgg]
          · have hh := q4 gg off e
            have hgg : gg ≠ g := by omega
            rw [hbb gg (by omega) hgg, setCell_blk _ _ _ _ gg hgg])
        clear hM5 hM6 a5 hp6
        go_wp2
        go_roundw
        case rel => exact ⟨k + 1, by omega, by simp, S7, unhide b7⟩
        case measure => simp [intOf]; omega
      · obtain rfl : k = m := by omega
        go_wp2
        go_ret
        refine ⟨some ⟨g, 0, none⟩, k, c1, S, unhide HPM, unhide HST, rfl, ⟨by rw [List.length_map, ← unhide HM], by omega, fun e => (by cases e), .inr ⟨g, 0, rfl, (unhide HF).lt, fun i f hi => ?_⟩⟩, hb⟩
        rw [List.getElem?_map, Option.map_eq_some_iff] at hi
        obtain ⟨x, hx, rfl⟩ := hi
        have hil := (List.getElem?_eq_some_iff.1 hx).1
        obtain ⟨cs, h1, h2⟩ := (unhide HF).row i x (by rw [unhide HM]; exact hil) hx
        exact ⟨cs, by rw [Nat.zero_add]; exact h1, h2 _ (Nat.le_refl _) (fun _ _ _ => rfl)⟩
end Go.Proofs.Ythpcpminikmcbaa.og
namespace Go.Proofs.Ythpcpminikmcbaa.og
open Go.ChangeShapes Go.WideShapes Go.ChangeAt Go.RowKit Go.Shelf
open vl hiding cB cFl cS cF cI cK cIt
open stp (St Pth St3 c3 c3_lt c3_gt c3_eq lexS)
set_option linter.unusedVariables false
set_option linter.unusedSimpArgs false
theorem cP_lt1 {x1 y1 x2 y2 : Int} (h : x1 < x2) : cP (x1, y1) (x2, y2) = -1 := by unfold cP; simp only; rw [c3_lt h]; rfl
theorem cP_gt1 {x1 y1 x2 y2 : Int} (h : x2 < x1) : cP (x1, y1) (x2, y2) = 1 := by unfold cP; simp only; rw [c3_gt h]; rfl
theorem cP_lt2 {x y1 y2 : Int} (h : y1 < y2) : cP (x, y1) (x, y2) = -1 := by unfold cP; simp only; rw [c3_eq rfl, c3_lt h]; rfl
theorem cP_gt2 {x y1 y2 : Int} (h : y2 < y1) : cP (x, y1) (x, y2) = 1 := by unfold cP; simp only; rw [c3_eq rfl, c3_gt h]; rfl
set_option maxHeartbeats 1000000 in
set_option maxRecDepth 20000 in
theorem rcmpPos_ok (aA aB : Option Addr) (nA cA nB cB : Nat) (A B : List (Int × Int)) (w : World) (hA : PosAt w aA nA A) (hB : PosAt w aB nB B) (bA : nA ≤ 1048576) (bB : nB ≤ 1048576) :
    Calls Try.prog 45 #[.slice aA nA cA, .slice aB nB cB] w fun e w' => e = .returned (.int .i64 (lexG cP A B)) ∧ Below w.heap.size w w' := by
  have HA := hide hA
  have HB := hide hB
  clear hA hB
  have hmx := vl.mixed
  go_enter Try.func45, Try.ntmps45
  go_wp2_with fail
  go_loopw [5] (fun v wr => ∃ k : Nat, k ≤ nA ∧ k ≤ nB ∧ v = .int .i64 k ∧ Below w.heap.size w wr ∧ vl.Hid (lexG cP A B = lexG cP (A.drop k) (B.drop k))) (fun v _ => nA - (intOf v).toNat)
  case atStart => exact ⟨0, Nat.zero_le _, Nat.zero_le _, rfl, Below.refl _ _, rfl⟩
  case round =>
    obtain ⟨k, hkA, hkB, rfl, hbk, hl⟩ := hrel
    by_cases hlt : k < nA
    · have ki : (k : Int) < (nA : Int) := by omega
      by_cases hlb : k < nB
      · have kb : (k : Int) < (nB : Int) := by omega
        obtain ⟨b, off, p, rfl, hbw, hs, hr⟩ := ((unhide HA).below hbk).get hlt
        obtain ⟨b', off', q, rfl, hbw', hs', hr'⟩ := ((unhide HB).below hbk).get hlb
        obtain ⟨x1, y1⟩ := p
        obtain ⟨x2, y2⟩ := q
        have u0 : wr.cell? ⟨b, off + k * 2, none⟩ = some (.int .i64 x1) := hr 0 _ rfl
        have u1 : wr.cell? ⟨b, off + k * 2 + 1, none⟩ = some (.int .i64 y1) := hr 1 _ rfl
        have v0 : wr.cell? ⟨b', off' + k * 2, none⟩ = some (.int .i64 x2) := hr' 0 _ rfl
        have v1 : wr.cell? ⟨b', off' + k * 2 + 1, none⟩ = some (.int .i64 y2) := hr' 1 _ rfl
        have hst := lexG_step (f := cP) hs hs'
        clear hr hr' hs hs'
        rcases Int.lt_trichotomy x1 x2 with hx | hx | hx
        · have HS := hide (hst.trans (by rw [cP_lt1 hx, if_neg (by omega)]))
          clear hst
          go_wp2_with fail
          go_region
          go_wp2
          go_ret
          exact ⟨by rw [unhide hl, unhide HS]; rfl, hbk.drew⟩
        · subst hx
          have hxx : ¬ x1 < x1 := by omega
          have hxx' : ¬ x1 > x1 := by omega
          rcases Int.lt_trichotomy y1 y2 with hy | hy | hy
          · have HS := hide (hst.trans (by rw [cP_lt2 hy, if_neg (by omega)]))
            clear hst
            go_wp2_with fail
            go_region
            go_wp2_with fail
            go_region
            go_wp2_with fail
            go_region
            go_wp2
            go_ret
            exact ⟨by rw [unhide hl, unhide HS]; rfl, hbk.drew.drew.drew⟩
          · subst hy
            have hyy : ¬ y1 < y1 := by omega
            have hyy' : ¬ y1 > y1 := by omega
            have HS := hide (hst.trans (by rw [cP_self, if_pos rfl]))
            clear hst
            go_wp2_with fail
            go_region
            go_wp2_with fail
            go_region
            go_wp2_with fail
            go_region
            go_wp2_with fail
            go_region
            go_wp2
            go_roundw
            case rel => exact ⟨k + 1, by omega, by omega, by go_num, hbk.drew.drew.drew.drew, (unhide hl).trans (unhide HS)⟩
            case measure => simp [intOf]; omega
          · have hyy : ¬ y1 < y2 := by omega
            have HS := hide (hst.trans (by rw [cP_gt2 hy, if_neg (by omega)]))
            clear hst
            go_wp2_with fail
            go_region
            go_wp2_with fail
            go_region
            go_wp2_with fail
            go_region
            go_wp2_with fail
            go_region
            go_wp2
            go_ret
            exact ⟨by rw [unhide hl, unhide HS]; rfl, hbk.drew.drew.drew.drew⟩
        · have hxx : ¬ x1 < x2 := by omega
          have HS := hide (hst.trans (by rw [cP_gt1 hx, if_neg (by omega)]))
          clear hst
          go_wp2_with fail
          go_region
          go_wp2_with fail
          go_region
          go_wp2
          go_ret
          exact ⟨by rw [unhide hl, unhide HS]; rfl, hbk.drew.drew⟩
      · have kb : ¬ (k : Int) < (nB : Int) := by omega
        have kc : ¬ (nA : Int) < (nB : Int) := by omega
        have kd : (nA : Int) > (nB : Int) := by omega
        have HS := hide (lexG_end2 (f := cP) (A := A) (B := B) (k := k) (by rw [(unhide HA).len]; exact hlt) (by rw [(unhide HB).len]; omega))
        go_wp2
        go_ret
        exact ⟨by rw [unhide hl, unhide HS]; rfl, hbk⟩
    · have ki : ¬ (k : Int) < (nA : Int) := by omega
      by_cases hlb : k < nB
      · have kb : (nA : Int) < (nB : Int) := by omega
        have HS := hide (lexG_end1 (f := cP) (A := A) (B := B) (k := k) (by rw [(unhide HA).len]; omega) (by rw [(unhide HB).len]; exact hlb))
        go_wp2
        go_ret
        exact ⟨by rw [unhide hl, unhide HS]; rfl, hbk⟩
      · have kb : ¬ (nA : Int) < (nB : Int) := by omega
        have kc : ¬ (nA : Int) > (nB : Int) := by omega
        have HS := hide (lexG_end0 (f := cP) (A := A) (B := B) (k := k) (by rw [(unhide HA).len]; omega) (by rw [(unhide HB).len]; omega))
        go_wp2
        go_ret
        exact ⟨by rw [unhide hl, unhide HS]; rfl, hbk⟩
end Go.Proofs.Ythpcpminikmcbaa.og
namespace Go.Proofs.Ythpcpminikmcbaa.stp
open Go.ChangeShapes Go.WideShapes Go.ChangeAt Go.RowKit
set_option linter.unusedVariables false
theorem refStep_any (n1 n2 : ByteArray) (x1 x2 : Int) (t1 t2 : Bool) (w : World) : Calls Try.prog 122 #[.agg #[.string n1, .int .i64 x1, .bool t1], .agg #[.string n2, .int .i64 x2, .bool t2]] w fun e w' => e = .returned (.int .i64 (cS ⟨n1, x1, t1⟩ ⟨n2, x2, t2⟩)) ∧ Below w.heap.size w w' := by
  have hg := fun (t : TypeId) (a b : ByteArray) => binOp_string_gtr t a b
  cases t1
  · cases t2
    · rcases cB_tri n1 n2 with ⟨h1, h2, h3⟩ | ⟨h1, h2, h3⟩ | ⟨h1, h2, h3⟩
      · have hc := hide (show cS ⟨n1, x1, false⟩ ⟨n2, x2, false⟩ = -1 from h1)
        clear h1 h3
        go_enter Try.func122, Try.ntmps122
        go_wp2
        go_ret
        exact ⟨by rw [unhide hc]; rfl, ((Below.refl _ _).alloc (Nat.le_refl _) _).alloc (by simp) _⟩
      · have hc := hide (show cS ⟨n1, x1, false⟩ ⟨n2, x2, false⟩ = 0 from h1)
        subst h3
        clear h1
        go_enter Try.func122, Try.ntmps122
        go_wp2
        go_ret
        exact ⟨by rw [unhide hc]; rfl, ((Below.refl _ _).alloc (Nat.le_refl _) _).alloc (by simp) _⟩
      · have hc := hide (show cS ⟨n1, x1, false⟩ ⟨n2, x2, false⟩ = 1 from h1)
        have h3 : (n1.toList == n2.toList) = false := by simpa using fun e => h3 (bytes_ext e)
        clear h1
        go_enter Try.func122, Try.ntmps122
        go_wp2
        go_ret
        exact ⟨by rw [unhide hc]; rfl, ((Below.refl _ _).alloc (Nat.le_refl _) _).alloc (by simp) _⟩
    · have hc := hide (show cS ⟨n1, x1, false⟩ ⟨n2, x2, true⟩ = 1 from rfl)
      go_enter Try.func122, Try.ntmps122
      go_wp2
      go_ret
      exact ⟨by rw [unhide hc]; rfl, ((Below.refl _ _).alloc (Nat.le_refl _) _).alloc (by simp) _⟩
  · cases t2
    · have hc := hide (show cS ⟨n1, x1, true⟩ ⟨n2, x2, false⟩ = -1 from rfl)
      go_enter Try.func122, Try.ntmps122
      go_wp2
      go_ret
      exact ⟨by rw [unhide hc]; rfl, ((Below.refl _ _).alloc (Nat.le_refl _) _).alloc (by simp) _⟩
    · rcases Int.lt_trichotomy x1 x2 with h | h | h
      · have hc := hide (show cS ⟨n1, x1, true⟩ ⟨n2, x2, true⟩ = -1 from c3_lt h)
        go_enter Try.func122, Try.ntmps122
        go_wp2
        go_ret
        exact ⟨by rw [unhide hc]; rfl, ((Below.refl _ _).alloc (Nat.le_refl _) _).alloc (by simp) _⟩
      · have hc := hide (show cS ⟨n1, x1, true⟩ ⟨n2, x2, true⟩ = 0 from c3_eq h)
        subst h
        go_enter Try.func122, Try.ntmps122
        go_wp2
        go_ret
        exact ⟨by rw [unhide hc]; rfl, ((Below.refl _ _).alloc (Nat.le_refl _) _).alloc (by simp) _⟩
      · have hc := hide (show cS ⟨n1, x1, true⟩ ⟨n2, x2, true⟩ = 1 from c3_gt h)
        have h' : ¬ x1 < x2 := by omega
        go_enter Try.func122, Try.ntmps122
        go_wp2
        go_ret
        exact ⟨by rw [unhide hc]; rfl, ((Below.refl _ _).alloc (Nat.le_refl _) _).alloc (by simp) _⟩
theorem refCmp_any (aA aB : Option Addr) (nA cA nB cB : Nat) (A B : List St) (w : World) (hA : Pth w aA nA A) (hB : Pth w aB nB B) (bA : nA ≤ 4611686018427387903) (bB : nB ≤ 4611686018427387903) :
    Calls Try.prog 107 #[.slice aA nA cA, .slice aB nB cB] w fun e w' => e = .returned (.int .i64 (lexS A B)) ∧ Below w.heap.size w w' := by
  go_enter Try.func107, Try.ntmps107
  go_wp2_with fail
  go_loopw [5] (fun v wr => ∃ k : Nat, k ≤ nA ∧ k ≤ nB ∧ v = .int .i64 k ∧ Below w.heap.size w wr ∧ Hid (lexS A B = lexS (A.drop k) (B.drop k))) (fun v _ => nA - (intOf v).toNat)
  case atStart => exact ⟨0, Nat.zero_le _, Nat.zero_le _, rfl, Below.refl _ _, rfl⟩
  case round =>
    obtain ⟨k, hkA, hkB, rfl, hbk, hl⟩ := hrel
    by_cases hlt : k < nA
    · have ki : (k : Int) < (nA : Int) := by omega
      rcases (hA.below hbk).at_ with h0 | ⟨b, off, rfl, hbw, hcell⟩
      · omega
      obtain ⟨s, hs, u0, u1, u2⟩ := hcell k hlt
      obtain ⟨n1, x1, t1⟩ := s
      have hs := hide hs
      clear hcell
      by_cases hlb : k < nB
      · have kb : (k : Int) < (nB : Int) := by omega
        rcases (hB.below hbk).at_ with h0 | ⟨b', off', rfl, hbw', hcell⟩
        · omega
        obtain ⟨s', hs', v0, v1, v2⟩ := hcell k hlb
        obtain ⟨n2, x2, t2⟩ := s'
        have hs' := hide hs'
        clear hcell
        simp only at u0 u1 u2 v0 v1 v2
        have hst := hide (lex_step (unhide hs) (unhide hs'))
        have HC := refStep_any n1 n2 x1 x2 t1 t2
        go_wp2_with fail
        go_region_with (go_at_call 122; refine (HC _).mono ?_; clear HC; rintro e w2 ⟨rfl, hb2⟩)
        all_goals (
          have hb2 : Below w.heap.size w w2 := (hbk.drew).trans (hb2.mono hbk.size)
          by_cases hc : cS ⟨n1, x1, t1⟩ ⟨n2, x2, t2⟩ = 0
          · have hc2 := hide hc
            rw [hc]
            clear hc
            go_wp2
            go_roundw
            case rel => exact ⟨k + 1, by omega, by omega, by go_num, hb2, (unhide hl).trans ((unhide hst).trans (if_pos (unhide hc2)))⟩
            case measure => simp [intOf]; omega
          · have hc2 := hide hc
            generalize hcv : cS ⟨n1, x1, t1⟩ ⟨n2, x2, t2⟩ = cv at *
            have hcv := hide hcv
            go_wp2
            go_ret
            exact ⟨by rw [unhide hl, unhide hst, if_neg (unhide hc2)]; rfl, hb2⟩)
      · have kb : ¬ (k : Int) < (nB : Int) := by omega
        have ke : ¬ (nA : Int) < (nB : Int) := by omega
        have ke2 : (nB : Int) < (nA : Int) := by omega
        go_wp2
        go_ret
        exact ⟨by rw [unhide hl, lex_end2 (by rw [hA.len]; exact hlt) (by rw [hB.len]; omega)]; rfl, hbk⟩
    · have ki : ¬ (k : Int) < (nA : Int) := by omega
      by_cases hlb : k < nB
      · have kb : (nA : Int) < (nB : Int) := by omega
        go_wp2
        go_ret
        exact ⟨by rw [unhide hl, lex_end1 (by rw [hA.len]; omega) (by rw [hB.len]; exact hlb)]; rfl, hbk⟩
      · have kb : ¬ (nA : Int) < (nB : Int) := by omega
        have kb2 : ¬ (nB : Int) < (nA : Int) := by omega
        go_wp2
        go_ret
        exact ⟨by rw [unhide hl, lex_end0 (by rw [hA.len]; omega) (by rw [hB.len]; omega)]; rfl, hbk⟩
end Go.Proofs.Ythpcpminikmcbaa.stp
namespace Go.Proofs.Ythpcpminikmcbaa.og
open Go.ChangeShapes Go.WideShapes Go.ChangeAt Go.RowKit Go.Shelf
open vl hiding cB cFl cS cF cI cK cIt
open stp (St Pth St3 c3 c3_lt c3_gt c3_eq lexS)
set_option linter.unusedVariables false
set_option linter.unusedSimpArgs false
set_option maxHeartbeats 1000000 in
set_option maxRecDepth 100000 in
theorem rcmpF_ok (f g : Ft) (cs ds : List Value) (w : World) (hf : FtC w f cs) (hg : FtC w g ds) : Calls Try.prog 78 #[.agg cs.toArray, .agg ds.toArray] w fun e w' => e = .returned (.int .i64 (cF f g)) ∧ Below w.heap.size w w' := by
  obtain ⟨ap, np, cp, aq, nq, cq, rfl, p1, p2, l1, l2, -⟩ := hf
  obtain ⟨bp, mp, dp, bq, mq, dq, rfl, r1, r2, k1, k2, -⟩ := hg
  have CP := hide (fun W (hb : Below w.heap.size w W) => rcmpPos_ok ap bp np cp mp dp f.ps g.ps W (p1.below hb) (r1.below hb) (by omega) (by omega))
  have CS := hide (fun W (hb : Below w.heap.size w W) => stp.refCmp_any aq bq nq cq mq dq f.pt g.pt W (p2.below hb) (r2.below hb) (by omega) (by omega))
  have EF := hide (show cF f g = thn (c3 f.kd g.kd) (thn (lexG cP f.ps g.ps) (lexS f.pt g.pt)) from rfl)
  generalize cF f g = R at *
  generalize lexG cP f.ps g.ps = B at *
  generalize lexS f.pt g.pt = C at *
  generalize f.kd = fk at *
  generalize g.kd = gk at *
  clear p1 p2 r1 r2 l1 l2 k1 k2
  rcases Int.lt_trichotomy fk gk with h | h | h
  · have EF := hide ((unhide EF).trans (show _ = -1 by rw [c3_lt h]; rfl))
    go_enter Try.func78, Try.ntmps78
    go_wp2
    go_ret
    exact ⟨by rw [unhide EF]; rfl, ((Below.refl _ _).alloc (Nat.le_refl _) _).alloc (by simp) _⟩
  · subst h
    have EF := hide ((unhide EF).trans (show _ = thn B C by rw [c3_eq rfl]; rfl))
    have h1 : ¬ fk < fk := by omega
    have h2 : ¬ fk > fk := by omega
    go_enter Try.func78, Try.ntmps78
    go_wp2_with fail
    obtain ⟨W, eW⟩ : ∃ W, W = (w.alloc (.cells #[Value.int IntKind.i64 fk, Value.slice ap np cp, Value.slice aq nq cq] 55)).alloc (.cells #[Value.int IntKind.i64 fk, Value.slice bp mp dp, Value.slice bq mq dq] 55) := ⟨_, rfl⟩
    have gW : Below w.heap.size w W := by rw [eW]; exact ((Below.refl _ _).alloc (Nat.le_refl _) _).alloc (by simp) _
    have lx : w.heap.size < W.heap.size := by rw [eW]; simp; omega
    have ly : w.heap.size + 1 < W.heap.size := by rw [eW]; simp
    have b1 : Below (w.heap.size + 1) (w.alloc (.cells #[Value.int IntKind.i64 fk, Value.slice ap np cp, Value.slice aq nq cq] 55)) W := by rw [eW]; exact (Below.refl _ _).alloc (by simp) _
    have x2 : W.cell? ⟨w.heap.size, 2, none⟩ = some (.slice aq nq cq) := (b1.cell (p := ⟨w.heap.size, 2, none⟩) (Nat.lt_succ_self _)).trans (by rw [World.cell?_alloc_at _ _ _ _ rfl]; rfl)
    have y2 : W.cell? ⟨w.heap.size + 1, 2, none⟩ = some (.slice bq mq dq) := by rw [eW, World.cell?_alloc_at _ _ _ _ (by simp)]; rfl
    rw [← eW]
    clear eW b1
    refine (unhide CP W gW).mono ?_
    rintro e w2 ⟨rfl, g2⟩
    have x3 := keepC g2 lx x2
    have y3 := keepC g2 ly y2
    have gw2 := gW.trans (g2.mono gW.size)
    clear x2 y2
    by_cases hB : B = 0
    · subst hB
      go_wp2_with fail
      refine (unhide CS w2 gw2).mono ?_
      rintro e w3 ⟨rfl, g3⟩
      go_wp2
      go_ret
      exact ⟨by rw [unhide EF]; rfl, gw2.trans (g3.mono gw2.size)⟩
    · have hB2 : (B != 0) = true := by simpa using hB
      have EF := hide ((unhide EF).trans (show _ = B by unfold thn; rw [if_neg hB]))
      clear hB
      go_wp2
      go_ret
      exact ⟨by rw [unhide EF]; rfl, gw2⟩
  · have h1 : ¬ fk < gk := by omega
    have EF := hide ((unhide EF).trans (show _ = 1 by rw [c3_gt h]; rfl))
    go_enter Try.func78, Try.ntmps78
    go_wp2
    go_ret
    exact ⟨by rw [unhide EF]; rfl, ((Below.refl _ _).alloc (Nat.le_refl _) _).alloc (by simp) _⟩
end Go.Proofs.Ythpcpminikmcbaa.og
namespace Go.Proofs.Ythpcpminikmcbaa.og
open Go.ChangeShapes Go.WideShapes Go.ChangeAt Go.RowKit Go.Shelf
open vl hiding cB cFl cS cF cI cK cIt
open stp (St Pth St3 c3 c3_lt c3_gt c3_eq lexS)
set_option linter.unusedVariables false
set_option linter.unusedSimpArgs false
set_option maxHeartbeats 1000000 in
set_option maxRecDepth 6000 in
theorem sameSt (aA aB : Option Addr) (n cA cB : Nat) (ss : List St) (w : World) (hA : Pth w aA n ss) (hB : Pth w aB n ss) (bn : n ≤ 8388608) :
    Calls Try.prog 11 #[.slice aA n cA, .slice aB n cB] w fun e w' => e = .returned (.bool true) ∧ Below w.heap.size w w' := by
  go_enter Try.func11, Try.ntmps11
  go_wp2_with fail
  go_loopw [5] (fun vk wr => ∃ k : Nat, k ≤ n ∧ vk = .int .i64 k ∧ Below w.heap.size w wr) (fun vk _ => n - (intOf vk).toNat)
  case atStart => exact ⟨0, Nat.zero_le _, rfl, Below.refl _ _⟩
  case round =>
    obtain ⟨k, hk, rfl, hbk⟩ := hrel
    by_cases hlt : k < n
    · have ki : (k : Int) < (n : Int) := by omega
      rcases (hA.below hbk).at_ with h0 | ⟨b, off, rfl, hbw, hcell⟩
      · omega
      rcases (hB.below hbk).at_ with h0 | ⟨b', off', rfl, hbw', hcell'⟩
      · omega
      obtain ⟨s, hs, u0, u1, u2⟩ := hcell k hlt
      obtain ⟨s', hs', v0, v1, v2⟩ := hcell' k hlt
      obtain rfl : s = s' := Option.some.inj (hs.symm.trans hs')
      obtain ⟨nm, ix, it⟩ := s
      clear hcell hs hcell' hs'
      simp only at u0 u1 u2 v0 v1 v2
      go_wp2_with fail
      go_region
      go_wp2
      go_roundw
      case rel => exact ⟨k + 1, by omega, by go_num, hbk.drew⟩
      case measure => simp [intOf]; omega
    · have ki : ¬ (k : Int) < (n : Int) := by omega
      go_wp2
      go_ret
      exact ⟨rfl, hbk⟩
set_option maxHeartbeats 1000000 in
set_option maxRecDepth 100000 in
theorem sameF_true (f : Ft) (cs ds : List Value) (w : World) (hf : FtC w f cs) (hg : FtC w f ds) : Calls Try.prog 20 #[.agg cs.toArray, .agg ds.toArray] w fun e w' => e = .returned (.bool true) ∧ Below w.heap.size w w' := by
  obtain ⟨ap, np, cp, aq, nq, cq, rfl, p1, p2, l1, l2, -⟩ := hf
  obtain ⟨bp, mp, dp, bq, mq, dq, rfl, r1, r2, k1, k2, -⟩ := hg
  obtain rfl : np = mp := p1.len.symm.trans r1.len
  obtain rfl : nq = mq := p2.len.symm.trans r2.len
  have CP := hide (fun W (hb : Below w.heap.size w W) => rcmpPos_ok ap bp np cp np dp f.ps f.ps W (p1.below hb) (r1.below hb) (by omega) (by omega))
  rw [lexG_selfA cP_self] at CP
  have CS := hide (fun W (hb : Below w.heap.size w W) => sameSt aq bq nq cq dq f.pt W (p2.below hb) (r2.below hb) (by omega))
  generalize f.kd = fk at *
  clear p1 p2 r1 r2 l1 l2 k1 k2
  go_enter Try.func20, Try.ntmps20
  go_wp2_with fail
  obtain ⟨W, eW⟩ : ∃ W, W = (w.alloc (.cells #[Value.int IntKind.i64 fk, Value.slice ap np cp, Value.slice aq nq cq] 55)).alloc (.cells #[Value.int IntKind.i64 fk, Value.slice bp np dp, Value.slice bq nq dq] 55) := ⟨_, rfl⟩
  have gW : Below w.heap.size w W := by rw [eW]; exact ((Below.refl _ _).alloc (Nat.le_refl _) _).alloc (by simp) _
  have lx : w.heap.size < W.heap.size := by rw [eW]; simp; omega
  have ly : w.heap.size + 1 < W.heap.size := by rw [eW]; simp
  have b1 : Below (w.heap.size + 1) (w.alloc (.cells #[Value.int IntKind.i64 fk, Value.slice ap np cp, Value.slice aq nq cq] 55)) W := by rw [eW]; exact (Below.refl _ _).alloc (by simp) _
  have x2 : W.cell? ⟨w.heap.size, 2, none⟩ = some (.slice aq nq cq) := (b1.cell (p := ⟨w.heap.size, 2, none⟩) (Nat.lt_succ_self _)).trans (by rw [World.cell?_alloc_at _ _ _ _ rfl]; rfl)
  have y2 : W.cell? ⟨w.heap.size + 1, 2, none⟩ = some (.slice bq nq dq) := by rw [eW, World.cell?_alloc_at _ _ _ _ (by simp)]; rfl
  rw [← eW]
  clear eW b1
  refine (unhide CP W gW).mono ?_
  rintro e w2 ⟨rfl, g2⟩
  have x3 := keepC g2 lx x2
  have y3 := keepC g2 ly y2
  have gw2 := gW.trans (g2.mono gW.size)
  clear x2 y2
  go_wp2_with fail
  refine (unhide CS w2 gw2).mono ?_
  rintro e w3 ⟨rfl, g3⟩
  go_wp2
  go_ret
  exact ⟨rfl, gw2.trans (g3.mono gw2.size)⟩
theorem FtsR.below {w w' : World} {a : Option Addr} {n c : Nat} {R : List Ft} (h : FtsR w a n c R) (hb : Below w.heap.size w w') : FtsR w' a n c R := by
  refine ⟨h.len, h.le, h.nil, ?_⟩
  rcases h.at_ with h0 | ⟨b, off, ha, hlt, hc⟩
  · exact .inl h0
  · refine .inr ⟨b, off, ha, Nat.lt_of_lt_of_le hlt hb.size, fun k f hf => ?_⟩
    obtain ⟨cs, h1, h2⟩ := hc k f hf
    exact ⟨cs, fun j u hu => (hb.cell (p := ⟨b, off + k * 3 + j, none⟩) hlt).trans (h1 j u hu), h2.below hb⟩
theorem FtsR.get {w : World} {a : Option Addr} {n c : Nat} {R : List Ft} (h : FtsR w a n c R) {k : Nat} (hk : k < n) : ∃ b off f cs, a = some ⟨b, off, none⟩ ∧ b < w.heap.size ∧ R[k]? = some f ∧ w.rangeAt b (off + k * 3) cs ∧ FtC w f cs := by
  rcases h.at_ with h0 | ⟨b, off, ha, hlt, hc⟩
  · omega
  · have e := List.getElem?_eq_getElem (show k < R.length by rw [h.len]; exact hk)
    obtain ⟨cs, h1, h2⟩ := hc k _ e
    exact ⟨b, off, _, cs, ha, hlt, e, h1, h2⟩
set_option maxHeartbeats 1000000 in
set_option maxRecDepth 100000 in
theorem sameFs_true (R : List Ft) (a b : Option Addr) (n c d : Nat) (w : World) (hA : FtsR w a n c R) (hB : FtsR w b n d R) (hn : n ≤ 1048576) : Calls Try.prog 21 #[.slice a n c, .slice b n d] w fun e w' => e = .returned (.bool true) ∧ Below w.heap.size w w' := by
  have HA := hide hA
  have HB := hide hB
  clear hA hB
  go_enter Try.func21, Try.ntmps21
  go_wp2_with fail
  go_loopw [5] (fun vk wr => ∃ k : Nat, k ≤ n ∧ vk = .int .i64 k ∧ Below w.heap.size w wr) (fun vk _ => n - (intOf vk).toNat)
  case atStart => exact ⟨0, Nat.zero_le _, rfl, Below.refl _ _⟩
  case round =>
    obtain ⟨k, hk, rfl, hbk⟩ := hrel
    by_cases hlt : k < n
    · have ki : (k : Int) < (n : Int) := by omega
      obtain ⟨p, off, f, cs, rfl, hp, hf, hr, hc⟩ := ((unhide HA).below hbk).get hlt
      obtain ⟨p', off', f', ds, rfl, hp', hf', hr', hc'⟩ := ((unhide HB).below hbk).get hlt
      obtain rfl : f = f' := Option.some.inj (hf.symm.trans hf')
      have SF := hide (fun W (hW : Below wr.heap.size wr W) => sameF_true f cs ds W (hc.below hW) (hc'.below hW))
      obtain ⟨ap, np, cp, aq, nq, cq, rfl, -⟩ := hc
      obtain ⟨bp, mp, dp, bq, mq, dq, rfl, -⟩ := hc'
      have x0 : wr.cell? ⟨p, off + k * 3, none⟩ = some (.int .i64 f.kd) := hr 0 _ rfl
      have x1 : wr.cell? ⟨p, off + k * 3 + 1, none⟩ = some (.slice ap np cp) := hr 1 _ rfl
      have x2 : wr.cell? ⟨p, off + k * 3 + 2, none⟩ = some (.slice aq nq cq) := hr 2 _ rfl
      have y0 : wr.cell? ⟨p', off' + k * 3, none⟩ = some (.int .i64 f.kd) := hr' 0 _ rfl
      have y1 : wr.cell? ⟨p', off' + k * 3 + 1, none⟩ = some (.slice bp mp dp) := hr' 1 _ rfl
      have y2 : wr.cell? ⟨p', off' + k * 3 + 2, none⟩ = some (.slice bq mq dq) := hr' 2 _ rfl
      clear hr hr' hf hf'
      go_wp2_with fail
      have hS0 : Gr wr { wr with drawn := wr.drawn + 1 } := (Gr.refl _).drew
      refine wp_region_noPanic ?_
      refine wp_region_held (S := fun w' => Below wr.heap.size wr w') mixed ?_
      replace hS0 := hS0.1
      refine wpAnyH_take (i := 0) (v := ?v1) rfl (by kernel_rfl) (by kernel_rfl) (by kernel_rfl) (fun _ _ _ h => h) (Or.inl ⟨by rfl, ?hy1⟩) hS0 ?_
      case hy1 => (intro w' hw'; have a0 := keepC hw' hp x0; have a1 := keepC hw' hp x1; have a2 := keepC hw' hp x2; have b0 := keepC hw' hp' y0; have b1 := keepC hw' hp' y1; have b2 := keepC hw' hp' y2; go_simp; try with_reducible rfl)
      simp only [List.getElem_toArray, List.getElem_cons_zero, List.getElem_cons_succ, Act.put, List.setIfInBounds_toArray, List.set_cons_zero, List.set_cons_succ]
      refine wpAnyH_take (i := 1) (v := ?v2) rfl (by kernel_rfl) (by kernel_rfl) (by kernel_rfl) (fun _ _ _ h => h) (Or.inl ⟨by rfl, ?hy2⟩) hS0 ?_
      case hy2 => (intro w' hw'; have a0 := keepC hw' hp x0; have a1 := keepC hw' hp x1; have a2 := keepC hw' hp x2; have b0 := keepC hw' hp' y0; have b1 := keepC hw' hp' y1; have b2 := keepC hw' hp' y2; go_simp; try with_reducible rfl)
      simp only [List.getElem_toArray, List.getElem_cons_zero, List.getElem_cons_succ, Act.put, List.setIfInBounds_toArray, List.set_cons_zero, List.set_cons_succ]
      refine wpAnyH_take (i := 2) (v := ?v3) rfl (by kernel_rfl) (by kernel_rfl) (by kernel_rfl) (fun _ _ _ h => h) (Or.inl ⟨by rfl, ?hy3⟩) hS0 ?_
      case hy3 => (intro w' hw'; have a0 := keepC hw' hp x0; have a1 := keepC hw' hp x1; have a2 := keepC hw' hp x2; have b0 := keepC hw' hp' y0; have b1 := keepC hw' hp' y1; have b2 := keepC hw' hp' y2; go_simp; try with_reducible rfl)
      simp only [List.getElem_toArray, List.getElem_cons_zero, List.getElem_cons_succ, Act.put, List.setIfInBounds_toArray, List.set_cons_zero, List.set_cons_succ]
      refine wpAnyH_take (i := 3) (v := ?v4) rfl (by kernel_rfl) (by kernel_rfl) (by kernel_rfl) (fun _ _ _ h => h) (Or.inl ⟨by rfl, ?hy4⟩) hS0 ?_
      case hy4 => (intro w' hw'; have a0 := keepC hw' hp x0; have a1 := keepC hw' hp x1; have a2 := keepC hw' hp x2; have b0 := keepC hw' hp' y0; have b1 := keepC hw' hp' y1; have b2 := keepC hw' hp' y2; go_simp; try with_reducible rfl)
      simp only [List.getElem_toArray, List.getElem_cons_zero, List.getElem_cons_succ, Act.put, List.setIfInBounds_toArray, List.set_cons_zero, List.set_cons_succ]
      refine wpAnyH_take (i := 4) (v := ?v5) rfl (by kernel_rfl) (by kernel_rfl) (by kernel_rfl) (fun _ _ _ h => h) (Or.inl ⟨by rfl, ?hy5⟩) hS0 ?_
      case hy5 => (intro w' hw'; have a0 := keepC hw' hp x0; have a1 := keepC hw' hp x1; have a2 := keepC hw' hp x2; have b0 := keepC hw' hp' y0; have b1 := keepC hw' hp' y1; have b2 := keepC hw' hp' y2; go_simp; try with_reducible rfl)
      simp only [List.getElem_toArray, List.getElem_cons_zero, List.getElem_cons_succ, Act.put, List.setIfInBounds_toArray, List.set_cons_zero, List.set_cons_succ]
      refine wpAnyH_take (i := 5) (v := ?v6) rfl (by kernel_rfl) (by kernel_rfl) (by kernel_rfl) (fun _ _ _ h => h) (Or.inl ⟨by rfl, ?hy6⟩) hS0 ?_
      case hy6 => (intro w' hw'; have a0 := keepC hw' hp x0; have a1 := keepC hw' hp x1; have a2 := keepC hw' hp x2; have b0 := keepC hw' hp' y0; have b1 := keepC hw' hp' y1; have b2 := keepC hw' hp' y2; go_simp; try with_reducible rfl)
      simp only [List.getElem_toArray, List.getElem_cons_zero, List.getElem_cons_succ, Act.put, List.setIfInBounds_toArray, List.set_cons_zero, List.set_cons_succ]
      refine wpAnyH_take (i := 6) (v := ?v7) rfl (by kernel_rfl) (by kernel_rfl) (by kernel_rfl) (fun _ _ _ h => h) (Or.inl ⟨by rfl, ?hy7⟩) hS0 ?_
      case hy7 => (intro w' hw'; have a0 := keepC hw' hp x0; have a1 := keepC hw' hp x1; have a2 := keepC hw' hp x2; have b0 := keepC hw' hp' y0; have b1 := keepC hw' hp' y1; have b2 := keepC hw' hp' y2; go_simp; try with_reducible rfl)
      simp only [List.getElem_toArray, List.getElem_cons_zero, List.getElem_cons_succ, Act.put, List.setIfInBounds_toArray, List.set_cons_zero, List.set_cons_succ]
      refine wpAnyH_take (i := 7) (v := ?v8) rfl (by kernel_rfl) (by kernel_rfl) (by kernel_rfl) (fun _ _ _ h => h) (Or.inl ⟨by rfl, ?hy8⟩) hS0 ?_
      case hy8 => (intro w' hw'; have a0 := keepC hw' hp x0; have a1 := keepC hw' hp x1; have a2 := keepC hw' hp x2; have b0 := keepC hw' hp' y0; have b1 := keepC hw' hp' y1; have b2 := keepC hw' hp' y2; go_simp; try with_reducible rfl)
      simp only [List.getElem_toArray, List.getElem_cons_zero, List.getElem_cons_succ, Act.put, List.setIfInBounds_toArray, List.set_cons_zero, List.set_cons_succ]
      refine rgn.one (i := 8) _ rfl (by kernel_rfl) (by rfl) ?_
      simp only [List.getElem_toArray, List.getElem_cons_zero, List.getElem_cons_succ, Act.put, List.setIfInBounds_toArray, List.set_cons_zero, List.set_cons_succ]
      go_wp2_with fail
      refine (unhide SF _ hS0).mono ?_
      rintro e w2 ⟨rfl, g2⟩
      have g3 := hS0.trans (g2.mono hS0.size)
      refine ⟨g3, ?_⟩
      try simp only [List.getElem_toArray, List.getElem_cons_zero, List.getElem_cons_succ, Act.put, List.setIfInBounds_toArray, List.set_cons_zero, List.set_cons_succ]
      replace hS0 := g3
      refine wpAnyH_take (i := 9) (v := ?v9) rfl (by kernel_rfl) (by kernel_rfl) (by kernel_rfl) (fun _ _ _ h => h) (Or.inl ⟨by rfl, ?hy9⟩) hS0 ?_
      case hy9 => (intro w' hw';  go_simp; try with_reducible rfl)
      simp only [List.getElem_toArray, List.getElem_cons_zero, List.getElem_cons_succ, Act.put, List.setIfInBounds_toArray, List.set_cons_zero, List.set_cons_succ]
      refine wpAnyH_done (by kernel_rfl) ?_ _; refine NoPanic.normal ?_
      go_wp2
      go_roundw
      case rel => exact ⟨k + 1, by omega, by go_num, hbk.trans (g3.mono hbk.size)⟩
      case measure => simp [intOf]; omega
    · have ki : ¬ (k : Int) < (n : Int) := by omega
      go_wp2
      go_ret
      exact ⟨rfl, hbk⟩
end Go.Proofs.Ythpcpminikmcbaa.og
namespace Go.Proofs.Ythpcpminikmcbaa.og
open Go.ChangeShapes Go.WideShapes Go.ChangeAt Go.RowKit Go.Shelf
open vl hiding cB cFl cS cF cI cK cIt
open stp (St Pth St3 c3 c3_lt c3_gt c3_eq lexS pN pI)
set_option linter.unusedVariables false
set_option linter.unusedSimpArgs false
theorem cS_pl (a b : St) : stp.cS (pl a) (pl b) = stp.cS a b := by
  obtain ⟨n1, x1, t1⟩ := a
  obtain ⟨n2, x2, t2⟩ := b
  unfold pl stp.cS
  cases t1 <;> cases t2 <;> simp [pN, pI]
theorem lexS_pl : ∀ a b : List St, lexS (a.map pl) (b.map pl) = lexS a b
  | [], [] => rfl
  | [], _ :: _ => rfl
  | _ :: _, [] => rfl
  | a :: l, b :: r => by
    show (if stp.cS (pl a) (pl b) = 0 then lexS (l.map pl) (r.map pl) else stp.cS (pl a) (pl b)) = (if stp.cS a b = 0 then lexS l r else stp.cS a b)
    rw [cS_pl, lexS_pl l r]
theorem cF_can (f g : Ft) : cF (can f) (can g) = cF f g := by
  show thn _ (thn _ (lexS (f.pt.map pl) (g.pt.map pl))) = _
  rw [lexS_pl]
  rfl
theorem thnZ {a b : Int} (h : thn a b = 0) : a = 0 ∧ b = 0 := by
  unfold thn at h
  by_cases e : a = 0
  · rw [if_pos e] at h; exact ⟨e, h⟩
  · rw [if_neg e] at h; exact absurd h e
theorem c3Z {x y : Int} (h : c3 x y = 0) : x = y := by
  unfold stp.c3 at h
  split at h
  · omega
  · split at h <;> omega
theorem cP_zero {p q : Int × Int} (h : cP p q = 0) : p = q := by
  obtain ⟨h1, h2⟩ := thnZ h
  exact Prod.ext (c3Z h1) (c3Z h2)
theorem lexP_zero : ∀ {a b : List (Int × Int)}, lexG cP a b = 0 → a = b
  | [], [], _ => rfl
  | [], _ :: _, h => by simp [lexG] at h
  | _ :: _, [], h => by simp [lexG] at h
  | a :: l, b :: r, h => by
    rw [lexG_cons] at h
    obtain ⟨h1, h2⟩ := thnZ h
    rw [cP_zero h1, lexP_zero h2]
theorem cS_zero_pl {a b : St} (h : stp.cS a b = 0) : pl a = pl b := by
  obtain ⟨n1, x1, t1⟩ := a
  obtain ⟨n2, x2, t2⟩ := b
  unfold stp.cS at h
  unfold pl
  cases t1 <;> cases t2 <;> simp at h
  · rcases stp.cB_tri n1 n2 with ⟨e, -⟩ | ⟨-, -, e⟩ | ⟨e, -⟩
    · rw [e] at h; cases h
    · simp [pN, pI, e]
    · rw [e] at h; cases h
  · have := c3Z h
    simp [pN, pI, this]
theorem lexS_zero : ∀ {a b : List St}, lexS a b = 0 → a.map pl = b.map pl
  | [], [], _ => rfl
  | [], _ :: _, h => by simp [stp.lexS] at h
  | _ :: _, [], h => by simp [stp.lexS] at h
  | a :: l, b :: r, h => by
    have h' : thn (stp.cS a b) (lexS l r) = 0 := h
    obtain ⟨h1, h2⟩ := thnZ h'
    rw [List.map_cons, List.map_cons, cS_zero_pl h1, lexS_zero h2]
theorem cF_zero {f g : Ft} (h : cF f g = 0) : can f = can g := by
  obtain ⟨h1, h2⟩ := thnZ h
  obtain ⟨h2, h3⟩ := thnZ h2
  unfold can
  rw [c3Z h1, lexP_zero h2, lexS_zero h3]
theorem cF_anti (f g : Ft) : cF g f = - cF f g := by
  have t := Tr.cF f g f
  rw [cF_self] at t
  have := t.2.2.2 rfl
  omega
/-- strictly rising -/
def Ris (R : List Ft) : Prop := R.Pairwise (fun a b => cF a b < 0)
theorem cpt_ris {V : World} : ∀ (r : List (Fb V)) (q : Fb V), (q :: r).Pairwise (fun x y => x.cf y ≤ 0) → (∀ z ∈ cptA q r, q.cf z < 0) ∧ (cptA q r).Pairwise (fun x y => x.cf y < 0)
  | [], q, _ => ⟨by simp [cptA], by simp [cptA]⟩
  | y :: r, q, h => by
    have hq := (List.pairwise_cons.1 h).1
    have hr := (List.pairwise_cons.1 h).2
    obtain ⟨i1, i2⟩ := cpt_ris r y hr
    have hqy : q.cf y ≤ 0 := hq y (List.mem_cons_self ..)
    have ha : y.cf q = - q.cf y := cF_anti _ _
    rw [cptA]
    split
    · rename_i e
      refine ⟨fun z hz => ?_, i2⟩
      have t := Tr.cF q.ft y.ft z.ft
      have h0' : q.cf y = 0 := by omega
      have h0 : cF q.ft y.ft = 0 := h0'
      have : cF q.ft z.ft = cF y.ft z.ft := t.1 h0
      have h2 : cF y.ft z.ft < 0 := i1 z hz
      show cF q.ft z.ft < 0
      omega
    · rename_i e
      have hlt : q.cf y < 0 := by omega
      refine ⟨fun z hz => ?_, List.pairwise_cons.2 ⟨i1, i2⟩⟩
      rcases List.mem_cons.1 hz with rfl | hz
      · exact hlt
      · have t := Tr.cF q.ft y.ft z.ft
        have r1 := Rg.cF q.ft y.ft
        have r2 := Rg.cF y.ft z.ft
        have h1 : cF q.ft y.ft < 0 := hlt
        have h2 : cF y.ft z.ft < 0 := i1 z hz
        unfold Rg at r1 r2
        have : cF q.ft z.ft = cF q.ft y.ft := t.2.2.1 (by omega)
        show cF q.ft z.ft < 0
        omega
theorem cptA_sub {V : World} : ∀ (r : List (Fb V)) (q : Fb V), ∀ z ∈ cptA q r, z ∈ r
  | [], q, z, h => by simp [cptA] at h
  | y :: r, q, z, h => by
    rw [cptA] at h
    split at h
    · exact List.mem_cons_of_mem _ (cptA_sub r y z h)
    · rcases List.mem_cons.1 h with rfl | h
      · exact List.mem_cons_self ..
      · exact List.mem_cons_of_mem _ (cptA_sub r y z h)
theorem cptA_all {V : World} : ∀ (r : List (Fb V)) (q : Fb V), ∀ z ∈ r, z.cf q = 0 ∨ ∃ y ∈ cptA q r, cF z.ft y.ft = 0
  | [], q, z, h => by simp at h
  | y :: r, q, z, h => by
    rw [cptA]
    have trans : ∀ a b c : Fb V, a.cf b = 0 → b.cf c = 0 → a.cf c = 0 := fun a b c h1 h2 => by
      have t := Tr.cF a.ft b.ft c.ft
      have : cF a.ft c.ft = cF b.ft c.ft := t.1 h1
      show cF a.ft c.ft = 0
      rw [this]; exact h2
    split
    · rename_i e
      rcases List.mem_cons.1 h with rfl | h
      · exact .inl e
      · rcases cptA_all r y z h with h1 | ⟨u, hu, h1⟩
        · exact .inl (trans z y q h1 e)
        · exact .inr ⟨u, hu, h1⟩
    · rcases List.mem_cons.1 h with rfl | h
      · exact .inr ⟨z, List.mem_cons_self .., cF_self _⟩
      · rcases cptA_all r y z h with h1 | ⟨u, hu, h1⟩
        · exact .inr ⟨y, List.mem_cons_self .., h1⟩
        · exact .inr ⟨u, List.mem_cons_of_mem _ hu, h1⟩
theorem SrtB.pw {V : World} {l : List (Fb V)} (h : SrtB l) : l.Pairwise (fun x y => x.cf y ≤ 0) := by
  rw [List.pairwise_iff_getElem]
  intro i j hi hj hij
  exact h i j _ _ hij (List.getElem?_eq_getElem hi) (List.getElem?_eq_getElem hj)
/-- the union that Faults answers -/
structure Rs (ins R : List Ft) : Prop where
  ris : Ris R
  mem : ∀ f, f ∈ R ↔ ∃ g ∈ ins, f = can g
theorem rs_of {V : World} {S L : List (Fb V)} (hp : S.Perm L) (hs : SrtB S) : Rs (L.map Fb.ft) ((cpt S).map (fun x => can x.ft)) := by
  have hpw := hs.pw
  constructor
  · unfold Ris
    rw [List.pairwise_map]
    cases S with
    | nil => simp [cpt]
    | cons q r =>
      obtain ⟨h1, h2⟩ := cpt_ris r q hpw
      refine (List.pairwise_cons.2 ⟨h1, h2⟩).imp ?_
      intro a b hab
      rw [cF_can]
      exact hab
  · intro f
    rw [List.mem_map]
    constructor
    · rintro ⟨x, hx, rfl⟩
      refine ⟨x.ft, List.mem_map.2 ⟨x, hp.mem_iff.1 ?_, rfl⟩, rfl⟩
      cases S with
      | nil => simp [cpt] at hx
      | cons q r =>
        simp only [cpt] at hx
        rcases List.mem_cons.1 hx with rfl | hx
        · exact List.mem_cons_self ..
        · exact List.mem_cons_of_mem _ (cptA_sub r q x hx)
    · rintro ⟨g, hg, rfl⟩
      obtain ⟨x, hx, rfl⟩ := List.mem_map.1 hg
      have hx := hp.mem_iff.2 hx
      cases S with
      | nil => simp at hx
      | cons q r =>
        simp only [cpt]
        rcases List.mem_cons.1 hx with rfl | hx
        · exact ⟨x, List.mem_cons_self .., rfl⟩
        · rcases cptA_all r q x hx with h1 | ⟨u, hu, h1⟩
          · exact ⟨q, List.mem_cons_self .., (cF_zero h1).symm⟩
          · exact ⟨u, List.mem_cons_of_mem _ hu, (cF_zero h1).symm⟩
theorem ris_eq : ∀ {R S : List Ft}, Ris R → Ris S → (∀ f, f ∈ R ↔ f ∈ S) → R = S
  | [], [], _, _, _ => rfl
  | [], b :: s, _, _, h => by have := (h b).2 (List.mem_cons_self ..); simp at this
  | a :: r, [], _, _, h => by have := (h a).1 (List.mem_cons_self ..); simp at this
  | a :: r, b :: s, hr, hs, h => by
    obtain ⟨r1, r2⟩ := List.pairwise_cons.1 hr
    obtain ⟨s1, s2⟩ := List.pairwise_cons.1 hs
    have hab : a = b := by
      rcases List.mem_cons.1 ((h a).1 (List.mem_cons_self ..)) with e | e
      · exact e
      · rcases List.mem_cons.1 ((h b).2 (List.mem_cons_self ..)) with e' | e'
        · exact e'.symm
        · have h1 := s1 a e
          have h2 := r1 b e'
          rw [cF_anti a b] at h1
          omega
    subst hab
    rw [ris_eq r2 s2 (fun f => ?_)]
    constructor
    · intro hf
      rcases List.mem_cons.1 ((h f).1 (List.mem_cons_of_mem _ hf)) with e | e
      · subst e; have := r1 f hf; rw [cF_self] at this; omega
      · exact e
    · intro hf
      rcases List.mem_cons.1 ((h f).2 (List.mem_cons_of_mem _ hf)) with e | e
      · subst e; have := s1 f hf; rw [cF_self] at this; omega
      · exact e
theorem rs_unique {ins ins' R S : List Ft} (h : Rs ins R) (k : Rs ins' S) (hm : ∀ f, (∃ g ∈ ins, f = can g) ↔ ∃ g ∈ ins', f = can g) : R = S :=
  ris_eq h.ris k.ris (fun f => (h.mem f).trans ((hm f).trans (k.mem f).symm))
theorem pl_pl (s : St) : pl (pl s) = pl s := by
  obtain ⟨n, x, t⟩ := s
  unfold pl
  cases t <;> simp [pN, pI]
theorem can_can (f : Ft) : can (can f) = can f := by
  unfold can
  simp only [List.map_map]
  congr 1
  apply List.map_congr_left
  intro s _
  exact pl_pl s
end Go.Proofs.Ythpcpminikmcbaa.og
namespace Go.Proofs.Ythpcpminikmcbaa.og
open Go.ChangeShapes Go.WideShapes Go.ChangeAt Go.RowKit Go.Shelf
open vl hiding cB cFl cS cF cI cK cIt
open stp (St Pth St3 c3 c3_lt c3_gt c3_eq lexS)
set_option linter.unusedVariables false
set_option linter.unusedSimpArgs false
theorem bel_dN {B : Nat} {w wr : World} (h : Below B w wr) (n : Nat) : Below B w (wr.drewN n) := h.trans ⟨rfl, rfl, rfl, Nat.le_refl _, fun _ _ => rfl⟩
theorem take_eq {α : Type} {A B : List α} {k : Nat} {s : α} (h : A.take k = B.take k) (h1 : A[k]? = some s) (h2 : B[k]? = some s) : A.take (k + 1) = B.take (k + 1) := by rw [List.take_add_one, List.take_add_one, h, h1, h2]
set_option maxHeartbeats 1000000 in
set_option maxRecDepth 6000 in
theorem sameSt_any (aA aB : Option Addr) (nA nB cA cB : Nat) (A B : List St) (w : World) (hA : Pth w aA nA A) (hB : Pth w aB nB B) (bn : nA ≤ 8388608) (bm : nB ≤ 8388608) :
    Calls Try.prog 11 #[.slice aA nA cA, .slice aB nB cB] w fun e w' => (∃ b : Bool, e = .returned (.bool b) ∧ (b = true ↔ A = B)) ∧ Below w.heap.size w w' := by
  have HA := hide hA
  have HB := hide hB
  clear hA hB
  by_cases hn : nA = nB
  · subst hn
    go_enter Try.func11, Try.ntmps11
    go_wp2_with fail
    go_loopw [5] (fun vk wr => ∃ k : Nat, k ≤ nA ∧ vk = .int .i64 k ∧ Below w.heap.size w wr ∧ vl.Hid (A.take k = B.take k)) (fun vk _ => nA - (intOf vk).toNat)
    case atStart => exact ⟨0, Nat.zero_le _, rfl, Below.refl _ _, hide (by simp)⟩
    case round =>
      obtain ⟨k, hk, rfl, hbk, HT⟩ := hrel
      by_cases hlt : k < nA
      · have ki : (k : Int) < (nA : Int) := by omega
        rcases ((unhide HA).below hbk).at_ with h0 | ⟨b, off, rfl, hbw, hcell⟩
        · omega
        rcases ((unhide HB).below hbk).at_ with h0 | ⟨b', off', rfl, hbw', hcell'⟩
        · omega
        obtain ⟨s, hs, u0, u1, u2⟩ := hcell k hlt
        obtain ⟨s', hs', v0, v1, v2⟩ := hcell' k hlt
        by_cases hss : s = s'
        · subst hss
          have HN := hide (take_eq (unhide HT) hs hs')
          obtain ⟨nm, ix, it⟩ := s
          clear hcell hs hcell' hs' HT
          simp only at u0 u1 u2 v0 v1 v2
          go_wp2_with fail
          go_region
          go_wp2
          go_roundw
          case rel => exact ⟨k + 1, by omega, by go_num, hbk.drew, HN⟩
          case measure => simp [intOf]; omega
        · have HNE := hide (show A ≠ B from fun e => hss (by rw [e] at hs; exact Option.some.inj (hs.symm.trans hs')))
          obtain ⟨n1, x1, t1⟩ := s
          obtain ⟨n2, x2, t2⟩ := s'
          clear hcell hs hcell' hs' HT
          simp only at u0 u1 u2 v0 v1 v2
          by_cases ht : t1 = t2
          · subst ht
            by_cases hx : x1 = x2
            · subst hx
              have hnn : n1.toList ≠ n2.toList := fun e => hss (by rw [stp.bytes_ext e])
              have hn1 : (n1.toList == n2.toList) = false := by simpa using hnn
              clear hss
              cases t1
              · go_wp2_with fail
                go_region
                go_wp2
                go_ret
                exact ⟨⟨false, rfl, ⟨fun e => (by cases e), fun e => absurd e (unhide HNE)⟩⟩, hbk.drew⟩
              · go_wp2_with fail
                go_region
                go_wp2
                go_ret
                exact ⟨⟨false, rfl, ⟨fun e => (by cases e), fun e => absurd e (unhide HNE)⟩⟩, hbk.drew⟩
            · have hx1 : (x1 == x2) = false := by simpa using hx
              clear hss
              cases t1
              · go_wp2_with fail
                go_quiet (fail)
                go_wp2
                go_ret
                exact ⟨⟨false, rfl, ⟨fun e => (by cases e), fun e => absurd e (unhide HNE)⟩⟩, bel_dN hbk _⟩
              · go_wp2_with fail
                go_quiet (fail)
                go_wp2
                go_ret
                exact ⟨⟨false, rfl, ⟨fun e => (by cases e), fun e => absurd e (unhide HNE)⟩⟩, bel_dN hbk _⟩
          · clear hss
            cases t1 <;> cases t2
            · exact absurd rfl ht
            · go_wp2_with fail
              go_quiet (fail)
              go_wp2
              go_ret
              exact ⟨⟨false, rfl, ⟨fun e => (by cases e), fun e => absurd e (unhide HNE)⟩⟩, bel_dN hbk _⟩
            · go_wp2_with fail
              go_quiet (fail)
              go_wp2
              go_ret
              exact ⟨⟨false, rfl, ⟨fun e => (by cases e), fun e => absurd e (unhide HNE)⟩⟩, bel_dN hbk _⟩
            · exact absurd rfl ht
      · have ki : ¬ (k : Int) < (nA : Int) := by omega
        have HE := hide (show A = B by have := unhide HT; rwa [List.take_of_length_le (by rw [(unhide HA).len]; omega), List.take_of_length_le (by rw [(unhide HB).len]; omega)] at this)
        go_wp2
        go_ret
        exact ⟨.inr ⟨rfl, unhide HE⟩, hbk⟩
  · have hni : ¬ (nA : Int) = (nB : Int) := by omega
    have HNE := hide (show A ≠ B from fun e => hn (by rw [← (unhide HA).len, ← (unhide HB).len, e]))
    clear hn
    go_enter Try.func11, Try.ntmps11
    go_wp2
    go_ret
    exact ⟨⟨false, rfl, ⟨fun e => (by cases e), fun e => absurd e (unhide HNE)⟩⟩, Below.refl _ _⟩
end Go.Proofs.Ythpcpminikmcbaa.og
namespace Go.Proofs.Ythpcpminikmcbaa.og
open Go.ChangeShapes Go.WideShapes Go.ChangeAt Go.RowKit Go.Shelf
open vl hiding cB cFl cS cF cI cK cIt
open stp (St Pth St3 c3 c3_lt c3_gt c3_eq lexS)
set_option linter.unusedVariables false
set_option linter.unusedSimpArgs false
set_option maxHeartbeats 600000 in
set_option maxRecDepth 100000 in
theorem sameF_any (f g : Ft) (cs ds : List Value) (w : World) (hf : FtC w f cs) (hg : FtC w g ds) : Calls Try.prog 20 #[.agg cs.toArray, .agg ds.toArray] w fun e w' => (∃ b : Bool, e = .returned (.bool b) ∧ (b = true ↔ f = g)) ∧ Below w.heap.size w w' := by
  obtain ⟨ap, np, cp, aq, nq, cq, rfl, p1, p2, l1, l2, -⟩ := hf
  obtain ⟨bp, mp, dp, bq, mq, dq, rfl, r1, r2, k1, k2, -⟩ := hg
  have CP := hide (fun W (hb : Below w.heap.size w W) => rcmpPos_ok ap bp np cp mp dp f.ps g.ps W (p1.below hb) (r1.below hb) (by omega) (by omega))
  have CS := hide (fun W (hb : Below w.heap.size w W) => sameSt_any aq bq nq mq cq dq f.pt g.pt W (p2.below hb) (r2.below hb) (by omega) (by omega))
  have EQ := hide (show f = g ↔ f.kd = g.kd ∧ f.ps = g.ps ∧ f.pt = g.pt from ⟨fun e => by rw [e]; exact ⟨rfl, rfl, rfl⟩, fun ⟨a, b, c⟩ => by obtain ⟨x, y, z⟩ := f; obtain ⟨x', y', z'⟩ := g; simp only at a b c; rw [a, b, c]⟩)
  have HP := hide (show lexG cP f.ps g.ps = 0 ↔ f.ps = g.ps from ⟨lexP_zero, fun e => by rw [e]; exact lexG_selfA cP_self _⟩)
  generalize lexG cP f.ps g.ps = B at *
  generalize f.kd = fk at *
  generalize g.kd = gk at *
  clear p1 p2 r1 r2 l1 l2 k1 k2
  by_cases hk : fk = gk
  · subst hk
    go_enter Try.func20, Try.ntmps20
    go_wp2_with fail
    obtain ⟨W, eW⟩ : ∃ W, W = (w.alloc (.cells #[Value.int IntKind.i64 fk, Value.slice ap np cp, Value.slice aq nq cq] 55)).alloc (.cells #[Value.int IntKind.i64 fk, Value.slice bp mp dp, Value.slice bq mq dq] 55) := ⟨_, rfl⟩
    have gW : Below w.heap.size w W := by rw [eW]; exact ((Below.refl _ _).alloc (Nat.le_refl _) _).alloc (by simp) _
    have lx : w.heap.size < W.heap.size := by rw [eW]; simp; omega
    have ly : w.heap.size + 1 < W.heap.size := by rw [eW]; simp
    have b1 : Below (w.heap.size + 1) (w.alloc (.cells #[Value.int IntKind.i64 fk, Value.slice ap np cp, Value.slice aq nq cq] 55)) W := by rw [eW]; exact (Below.refl _ _).alloc (by simp) _
    have x2 : W.cell? ⟨w.heap.size, 2, none⟩ = some (.slice aq nq cq) := (b1.cell (p := ⟨w.heap.size, 2, none⟩) (Nat.lt_succ_self _)).trans (by rw [World.cell?_alloc_at _ _ _ _ rfl]; rfl)
    have y2 : W.cell? ⟨w.heap.size + 1, 2, none⟩ = some (.slice bq mq dq) := by rw [eW, World.cell?_alloc_at _ _ _ _ (by simp)]; rfl
    rw [← eW]
    clear eW b1
    refine (unhide CP W gW).mono ?_
    rintro e w2 ⟨rfl, g2⟩
    have x3 := keepC g2 lx x2
    have y3 := keepC g2 ly y2
    have gw2 := gW.trans (g2.mono gW.size)
    clear x2 y2
    by_cases hB : B = 0
    · have HPS := hide ((unhide HP).1 hB)
      subst hB
      go_wp2_with fail
      refine (unhide CS w2 gw2).mono ?_
      rintro e w3 ⟨⟨bb, rfl, hbb⟩, g3⟩
      have HBB := hide hbb
      clear hbb
      go_wp2
      go_ret
      refine ⟨⟨bb, by cases bb <;> rfl, (unhide HBB).trans ⟨fun e => (unhide EQ).2 ⟨by trivial, unhide HPS, e⟩, fun e => ((unhide EQ).1 e).2.2⟩⟩, gw2.trans (g3.mono gw2.size)⟩
    · have hB2 : (B == 0) = false := by simpa using hB
      have HNE := hide (show f ≠ g from fun e => hB ((unhide HP).2 ((unhide EQ).1 e).2.1))
      clear hB
      go_wp2
      go_ret
      exact ⟨⟨false, rfl, ⟨fun e => (by cases e), fun e => absurd e (unhide HNE)⟩⟩, gw2⟩
  · have hk2 : (fk == gk) = false := by simpa using hk
    have HNE := hide (show f ≠ g from fun e => hk ((unhide EQ).1 e).1)
    clear hk
    go_enter Try.func20, Try.ntmps20
    go_wp2
    go_ret
    exact ⟨⟨false, rfl, ⟨fun e => (by cases e), fun e => absurd e (unhide HNE)⟩⟩, ((Below.refl _ _).alloc (Nat.le_refl _) _).alloc (by simp) _⟩
end Go.Proofs.Ythpcpminikmcbaa.og
namespace Go.Proofs.Ythpcpminikmcbaa.og
open Go.ChangeShapes Go.WideShapes Go.ChangeAt Go.RowKit Go.Shelf
open vl hiding cB cFl cS cF cI cK cIt
open stp (St Pth St3 c3 c3_lt c3_gt c3_eq lexS)
set_option linter.unusedVariables false
set_option linter.unusedSimpArgs false
/-- a fault of the list that is f but for the path's spelling -/
def InF (f : Ft) (R : List Ft) : Prop := ∃ g, g ∈ R ∧ g.kd = f.kd ∧ g.ps = f.ps ∧ lexS g.pt f.pt = 0
def Said (P : Prop) (e : Ending) : Prop := ∃ b : Bool, e = .returned (.bool b) ∧ (b = true ↔ P)
theorem said_t {P : Prop} (h : P) : Said P (.returned (.bool true)) := ⟨true, rfl, fun _ => h, fun _ => rfl⟩
theorem said_f {P : Prop} (h : ¬ P) : Said P (.returned (.bool false)) := ⟨false, rfl, ⟨fun e => (by cases e), fun e => absurd e h⟩⟩
theorem take_less {α : Type} {A B : List α} {k : Nat} (h : A.take (k + 1) = B.take (k + 1)) : A.take k = B.take k := by
  have := congrArg (List.take k) h
  simpa [List.take_take] using this
theorem take_last {α : Type} {A B : List α} {k : Nat} {x y : α} (h : A.take (k + 1) = B.take (k + 1)) (hx : A[k]? = some x) (hy : B[k]? = some y) : x = y := by
  have e := congrArg (fun l => l[k]?) h
  simpa [List.getElem?_take, hx, hy] using e
theorem inF_not {f g : Ft} {R : List Ft} {k : Nat} (h : ¬ InF f (R.take k)) (hg : R[k]? = some g) (hn : ¬ (g.kd = f.kd ∧ g.ps = f.ps ∧ lexS g.pt f.pt = 0)) : ¬ InF f (R.take (k + 1)) := by
  rintro ⟨x, hx, hr⟩
  rw [List.take_add_one, hg] at hx
  rcases List.mem_append.1 hx with hx | hx
  · exact h ⟨x, hx, hr⟩
  · simp at hx; subst hx; exact hn hr
theorem inF_hit {f g : Ft} {R : List Ft} {k : Nat} (hg : R[k]? = some g) (h : g.kd = f.kd ∧ g.ps = f.ps ∧ lexS g.pt f.pt = 0) : InF f R := ⟨g, List.mem_of_getElem? hg, h⟩
set_option maxHeartbeats 1000000 in
set_option maxRecDepth 100000 in
theorem inF_any (R : List Ft) (f : Ft) (a : Option Addr) (n c : Nat) (cs : List Value) (w : World) (hA : FtsR w a n c R) (hf : FtC w f cs) (hn : n ≤ 1048576) : Calls Try.prog 23 #[.slice a n c, .agg cs.toArray] w fun e w' => Said (InF f R) e ∧ Below w.heap.size w w' := by
  obtain ⟨bp, mp, dp, bq, mq, dq, rfl, r1, r2, k1, k2, -⟩ := hf
  have HA := hide hA
  have HP := hide r1
  have HQ := hide r2
  obtain ⟨fk, ek⟩ : ∃ fk, fk = f.kd := ⟨_, rfl⟩
  rw [← ek]
  have HK := hide ek
  clear hA r1 r2 ek
  go_enter Try.func23, Try.ntmps23
  go_wp2_with fail
  obtain ⟨W, eW⟩ : ∃ W, W = w.alloc (.cells #[Value.int IntKind.i64 fk, Value.slice bp mp dp, Value.slice bq mq dq] 55) := ⟨_, rfl⟩
  have gW : Below w.heap.size w W := by rw [eW]; exact (Below.refl _ _).alloc (Nat.le_refl _) _
  have lW : w.heap.size < W.heap.size := by rw [eW]; simp
  have z0 : W.cell? ⟨w.heap.size, 0, none⟩ = some (.int .i64 fk) := by rw [eW, World.cell?_alloc_at _ _ _ _ rfl]; rfl
  have z1 : W.cell? ⟨w.heap.size, 1, none⟩ = some (.slice bp mp dp) := by rw [eW, World.cell?_alloc_at _ _ _ _ rfl]; rfl
  have z2 : W.cell? ⟨w.heap.size, 2, none⟩ = some (.slice bq mq dq) := by rw [eW, World.cell?_alloc_at _ _ _ _ rfl]; rfl
  rw [← eW]
  clear eW
  go_loopw [11] (fun vk wr => ∃ k : Nat, k ≤ n ∧ vk = .int .i64 k ∧ Below W.heap.size W wr ∧ vl.Hid (¬ InF f (R.take k))) (fun vk _ => n - (intOf vk).toNat)
  case atStart => exact ⟨0, Nat.zero_le _, rfl, Below.refl _ _, hide (by rintro ⟨x, hx, -⟩; simp at hx)⟩
  case round =>
    obtain ⟨k, hk, rfl, hbk, HT⟩ := hrel
    have hb := gW.trans (hbk.mono gW.size)
    by_cases hlt : k < n
    · have ki : (k : Int) < (n : Int) := by omega
      obtain ⟨p, off, g, ds, rfl, hp, hg, hr, hc⟩ := ((unhide HA).below hb).get hlt
      obtain ⟨ap, np, cp, aq, nq, cq, rfl, q1, q2, l1, l2, -⟩ := hc
      obtain ⟨gk, ek⟩ : ∃ gk, gk = g.kd := ⟨_, rfl⟩
      rw [← ek] at hr
      have HGK := hide ek
      have x0 : wr.cell? ⟨p, off + k * 3, none⟩ = some (.int .i64 gk) := hr 0 _ rfl
      have x1 : wr.cell? ⟨p, off + k * 3 + 1, none⟩ = some (.slice ap np cp) := hr 1 _ rfl
      have x2 : wr.cell? ⟨p, off + k * 3 + 2, none⟩ = some (.slice aq nq cq) := hr 2 _ rfl
      have y0 := keepC hbk lW z0
      have y1 := keepC hbk lW z1
      have y2 := keepC hbk lW z2
      have lr : w.heap.size < wr.heap.size := Nat.lt_of_lt_of_le lW hbk.size
      have HG := hide hg
      have HQ1 := hide q1
      have HQ2 := hide q2
      clear hr hg q1 q2 ek z0 z1 z2
      have LT : k + 1 ≤ n := hlt
      by_cases hkk : gk = fk
      · subst hkk
        by_cases hnm : np = mp
        · subst hnm
          go_wp2_with fail
          obtain ⟨V, eV⟩ : ∃ V, V = wr.alloc (.cells #[Value.int IntKind.i64 gk, Value.slice ap np cp, Value.slice aq nq cq] 55) := ⟨_, rfl⟩
          have gV : Below wr.heap.size wr V := by rw [eV]; exact (Below.refl _ _).alloc (Nat.le_refl _) _
          have lV : wr.heap.size < V.heap.size := by rw [eV]; simp
          have lF : w.heap.size < V.heap.size := Nat.lt_of_lt_of_le lr gV.size
          have t1 : V.cell? ⟨wr.heap.size, 1, none⟩ = some (.slice ap np cp) := by rw [eV, World.cell?_alloc_at _ _ _ _ rfl]; rfl
          have s1 := keepC gV lr y1
          rw [← eV]
          clear eV
          refine (compareG aq bq nq cq mq dq g.pt f.pt V ((unhide HQ2).below gV) (((unhide HQ).below hb).below gV) (by omega) (by omega)).mono ?_
          rintro e U ⟨rfl, gU⟩
          have gU := gU.1
          obtain ⟨X, eX⟩ : ∃ X, X = lexS g.pt f.pt := ⟨_, rfl⟩
          rw [← eX]
          have HX := hide eX
          clear eX x0 x1 x2 y0 y1 y2
          have hbU := hbk.trans ((gV.trans (gU.mono gV.size)).mono hbk.size)
          have hbF := hb.trans ((gV.trans (gU.mono gV.size)).mono hb.size)
          have gR := gV.trans (gU.mono gV.size)
          have t2 := keepC gU lV t1
          have s2 := keepC gU lF s1
          have lV2 := Nat.lt_of_lt_of_le lV gU.size
          have lF2 := Nat.lt_of_lt_of_le lF gU.size
          clear t1 s1
          by_cases hX : X = 0
          · subst hX
            go_wp2_with fail
            go_loopw [7, 40] (fun vb vj wz => ∃ (j : Nat) (bb : Bool), j ≤ np ∧ vj = .int .i64 j ∧ vb = .bool bb ∧ Below U.heap.size U wz ∧ vl.Hid (bb = true ↔ g.ps.take j = f.ps.take j)) (fun _ vj _ => np - (intOf vj).toNat)
            case atStart => exact ⟨0, true, Nat.zero_le _, rfl, rfl, Below.refl _ _, hide (by simp)⟩
            case round =>
              obtain ⟨j, bb, hj, rfl, rfl, hbj, HB⟩ := hrel
              have t3 := keepC hbj lV2 t2
              have s3 := keepC hbj lF2 s2
              by_cases hjl : j < np
              · have kj : (j : Int) < (np : Int) := by omega
                cases bb
                · have HN := hide (show (false = true ↔ g.ps.take (j + 1) = f.ps.take (j + 1)) from ⟨fun e => (by cases e), fun e => (unhide HB).2 (take_less e)⟩)
                  clear HB
                  go_wp2_with fail
                  go_region
                  go_wp2
                  go_roundw
                  case rel => exact ⟨j + 1, false, by omega, by go_num, rfl, hbj.drew, HN⟩
                  case measure => simp [intOf]; omega
                · obtain ⟨b, o, pp, rfl, hbw, hs, hr⟩ := (((unhide HQ1).below gR).below hbj).get hjl
                  obtain ⟨b', o', qq, rfl, hbw', hs', hr'⟩ := (((unhide HP).below hbF).below hbj).get hjl
                  obtain ⟨p1, p2⟩ := pp
                  obtain ⟨q1, q2⟩ := qq
                  have c0 : wr.cell? ⟨b, o + j * 2, none⟩ = some (.int .i64 p1) := hr 0 _ rfl
                  have c1 : wr.cell? ⟨b, o + j * 2 + 1, none⟩ = some (.int .i64 p2) := hr 1 _ rfl
                  have d0 : wr.cell? ⟨b', o' + j * 2, none⟩ = some (.int .i64 q1) := hr' 0 _ rfl
                  have d1 : wr.cell? ⟨b', o' + j * 2 + 1, none⟩ = some (.int .i64 q2) := hr' 1 _ rfl
                  have HE := hide ((unhide HB).1 rfl)
                  clear hr hr' HB
                  by_cases h1 : p1 = q1
                  · subst h1
                    by_cases h2 : p2 = q2
                    · subst h2
                      have HN := hide (show (true = true ↔ g.ps.take (j + 1) = f.ps.take (j + 1)) from ⟨fun _ => take_eq (unhide HE) hs hs', fun _ => rfl⟩)
                      clear hs hs' HE
                      go_wp2_with fail
                      go_region
                      go_wp2
                      go_roundw
                      case rel => exact ⟨j + 1, true, by omega, by go_num, rfl, hbj.drew, hide ⟨fun _ => (unhide HN).1 trivial, fun _ => rfl⟩⟩
                      case measure => simp [intOf]; omega
                    · have HN := hide (show (false = true ↔ g.ps.take (j + 1) = f.ps.take (j + 1)) from ⟨fun e => (by cases e), fun e => absurd (congrArg Prod.snd (take_last e hs hs')) h2⟩)
                      clear hs hs' HE
                      go_wp2_with fail
                      go_region
                      go_wp2
                      go_roundw
                      case rel => exact ⟨j + 1, false, by omega, by go_num, rfl, hbj.drew, HN⟩
                      case measure => simp [intOf]; omega
                  · have HN := hide (show (false = true ↔ g.ps.take (j + 1) = f.ps.take (j + 1)) from ⟨fun e => (by cases e), fun e => absurd (congrArg Prod.fst (take_last e hs hs')) h1⟩)
                    clear hs hs' HE
                    go_wp2_with fail
                    go_region
                    go_wp2
                    go_roundw
                    case rel => exact ⟨j + 1, false, by omega, by go_num, rfl, hbj.drew, HN⟩
                    case measure => simp [intOf]; omega
              · have kj : ¬ (j : Int) < (np : Int) := by omega
                have HN := hide (show (bb = true ↔ g.ps = f.ps) by have := unhide HB; rwa [List.take_of_length_le (by rw [(unhide HQ1).len]; omega), List.take_of_length_le (by rw [(unhide HP).len]; omega)] at this)
                clear HB
                cases bb
                · have HZ := hide (inF_not (unhide HT) (unhide HG) (fun h => absurd ((unhide HN).2 h.2.1) (by simp)))
                  go_wp2
                  go_roundw
                  case rel => exact ⟨k + 1, LT, by go_num, hbU.trans (hbj.mono hbU.size), HZ⟩
                  case measure => simp [intOf]; omega
                · have HZ := hide (inF_hit (unhide HG) ⟨(unhide HGK).symm.trans (unhide HK), (unhide HN).1 rfl, (unhide HX).symm⟩)
                  go_wp2
                  go_ret
                  exact ⟨said_t (unhide HZ), hbF.trans (hbj.mono hbF.size)⟩
          · have hX2 : (X == 0) = false := by simpa using hX
            have HZ := hide (inF_not (unhide HT) (unhide HG) (fun h => hX ((unhide HX).trans h.2.2)))
            clear HT
            go_wp2
            go_roundw
            case rel => exact ⟨k + 1, LT, by go_num, hbU, HZ⟩
            case measure => simp [intOf]; omega
        · have hni : ¬ (np : Int) = (mp : Int) := by omega
          have HZ := hide (inF_not (unhide HT) (unhide HG) (fun h => hnm (by rw [← (unhide HQ1).len, ← (unhide HP).len, h.2.1])))
          clear HT
          go_wp2
          go_roundw
          case rel => exact ⟨k + 1, LT, by go_num, hbk.alloc hbk.size _, HZ⟩
          case measure => simp [intOf]; omega
      · have hk2 : (gk == fk) = false := by simpa using hkk
        have HZ := hide (inF_not (unhide HT) (unhide HG) (fun h => hkk ((unhide HGK).trans (h.1.trans (unhide HK).symm))))
        clear HT
        go_wp2
        go_roundw
        case rel => exact ⟨k + 1, LT, by go_num, hbk.alloc hbk.size _, HZ⟩
        case measure => simp [intOf]; omega
    · have ki : ¬ (k : Int) < (n : Int) := by omega
      have HE := hide (show ¬ InF f R by have := unhide HT; rwa [List.take_of_length_le (by rw [(unhide HA).len]; omega)] at this)
      go_wp2
      go_ret
      exact ⟨said_f (unhide HE), hb⟩
end Go.Proofs.Ythpcpminikmcbaa.og
