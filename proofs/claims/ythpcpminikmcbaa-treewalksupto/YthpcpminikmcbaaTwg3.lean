import Derived.Test.YthpcpminikmcbaaTwg2
import Derived.Test.YthpcpminikmcbaaTwg1
namespace Go.Proofs.Ythpcpminikmcbaa.stp
open Go.ChangeShapes Go.WideShapes Go.ChangeAt Go.RowKit
set_option linter.unusedVariables false
/-- a path: a slice of steps that is read -/
structure Pth (w : World) (a : Option Addr) (n : Nat) (ss : List St) : Prop where
  len : ss.length = n
  at_ : n = 0 ∨ ∃ b off, a = some ⟨b, off, none⟩ ∧ b < w.heap.size ∧ ∀ i, i < n → ∃ s, ss[i]? = some s ∧ St3 w b (off + i * 3) s.nm s.ix s.it
theorem Pth.below {w w' : World} {a : Option Addr} {n : Nat} {ss : List St} (h : Pth w a n ss) (hb : Below w.heap.size w w') : Pth w' a n ss := by
  refine ⟨h.len, ?_⟩
  rcases h.at_ with h0 | ⟨b, off, ha, hlt, hc⟩
  · exact .inl h0
  · refine .inr ⟨b, off, ha, Nat.lt_of_lt_of_le hlt hb.size, fun i hi => ?_⟩
    obtain ⟨s, hs, k⟩ := hc i hi
    exact ⟨s, hs, k.below hlt hb⟩
def lexS : List St → List St → Int
  | [], [] => 0
  | [], _ :: _ => -1
  | _ :: _, [] => 1
  | a :: l, b :: r => if cS a b = 0 then lexS l r else cS a b
theorem lex_end1 {A B : List St} {k : Nat} (hA : A.length ≤ k) (hB : k < B.length) : lexS (A.drop k) (B.drop k) = -1 := by
  rw [List.drop_eq_nil_of_le hA, List.drop_eq_getElem_cons hB]
  rfl
theorem lex_end2 {A B : List St} {k : Nat} (hA : k < A.length) (hB : B.length ≤ k) : lexS (A.drop k) (B.drop k) = 1 := by
  rw [List.drop_eq_nil_of_le hB, List.drop_eq_getElem_cons hA]
  rfl
theorem lex_end0 {A B : List St} {k : Nat} (hA : A.length ≤ k) (hB : B.length ≤ k) : lexS (A.drop k) (B.drop k) = 0 := by
  rw [List.drop_eq_nil_of_le hB, List.drop_eq_nil_of_le hA]
  rfl
theorem lex_step {A B : List St} {k : Nat} {a b : St} (hA : A[k]? = some a) (hB : B[k]? = some b) : lexS (A.drop k) (B.drop k) = if cS a b = 0 then lexS (A.drop (k + 1)) (B.drop (k + 1)) else cS a b := by
  obtain ⟨h1, rfl⟩ := List.getElem?_eq_some_iff.1 hA
  obtain ⟨h2, rfl⟩ := List.getElem?_eq_some_iff.1 hB
  rw [List.drop_eq_getElem_cons h1, List.drop_eq_getElem_cons h2]
  rfl
theorem lex_ne : ∀ {A B : List St}, A.length ≠ B.length → lexS A B ≠ 0
  | [], [], h => absurd rfl h
  | [], _ :: _, _ => by simp [lexS]
  | _ :: _, [], _ => by simp [lexS]
  | a :: l, b :: r, h => by
    have hlr : l.length ≠ r.length := fun e => h (by simp [e])
    have := lex_ne hlr
    unfold lexS
    by_cases hc : cS a b = 0
    · rw [if_pos hc]; exact this
    · rw [if_neg hc]; exact hc
theorem al2 {w wr w2 : World} {a b : Obj} (h : Below w.heap.size w wr) (h2 : Below ((wr.alloc a).alloc b).heap.size ((wr.alloc a).alloc b) w2) : Below w.heap.size w w2 := by
  have hs := h.size
  exact ((h.alloc hs a).alloc (by simp; omega) b).trans (h2.mono (by simp; omega))
theorem cmpFunc_any (aA aB : Option Addr) (nA cA nB cB : Nat) (A B : List St) (w : World) (hA : Pth w aA nA A) (hB : Pth w aB nB B) (bA : nA ≤ 4611686018427387903) (bB : nB ≤ 4611686018427387903) :
    Calls Try.prog 79 #[.slice aA nA cA, .slice aB nB cB, .func (.func 80) #[] #[]] w fun e w' => e = .returned (.int .i64 (lexS A B)) ∧ Below w.heap.size w w' := by
  go_enter Try.func79, Try.ntmps79
  go_wp2_with fail
  go_loopw [13] (fun v wr => ∃ k : Nat, k ≤ nA ∧ k ≤ nB ∧ v = .int .i64 k ∧ Below w.heap.size w wr ∧ Hid (lexS A B = lexS (A.drop k) (B.drop k))) (fun v _ => nA - (intOf v).toNat)
  case atStart => exact ⟨0, Nat.zero_le _, Nat.zero_le _, rfl, Below.refl _ _, rfl⟩
  case round =>
    obtain ⟨k, hkA, hkB, rfl, hbk, hl⟩ := hrel
    by_cases hlt : k < nA
    · have ki : (k : Int) < (nA : Int) := by omega
      rcases (hA.below hbk).at_ with h0 | ⟨b, off, rfl, hbw, hcell⟩
      · omega
      obtain ⟨s, hs, u0, u1, u2⟩ := hcell k hlt
      obtain ⟨n1, x1, t1⟩ := s
      have hs := hide hs
      clear hcell
      by_cases hlb : k < nB
      · have kb : (k : Int) < (nB : Int) := by omega
        rcases (hB.below hbk).at_ with h0 | ⟨b', off', rfl, hbw', hcell⟩
        · omega
        obtain ⟨s', hs', v0, v1, v2⟩ := hcell k hlb
        obtain ⟨n2, x2, t2⟩ := s'
        have hs' := hide hs'
        clear hcell
        simp only at u0 u1 u2 v0 v1 v2
        go_wp2_with fail
        refine (order_any n1 n2 x1 x2 t1 t2 _).mono ?_
        rintro e w2 ⟨rfl, hb2⟩
        have hb2 := al2 hbk hb2
        have hst := hide (lex_step (unhide hs) (unhide hs'))
        by_cases hc : cS ⟨n1, x1, t1⟩ ⟨n2, x2, t2⟩ = 0
        · have hc2 := hide hc
          rw [hc]
          clear hc
          go_wp2
          go_roundw
          case rel => exact ⟨k + 1, by omega, by omega, by go_num, hb2, (unhide hl).trans ((unhide hst).trans (if_pos (unhide hc2)))⟩
          case measure => simp [intOf]; omega
        · have hc2 := hide hc
          generalize hcv : cS ⟨n1, x1, t1⟩ ⟨n2, x2, t2⟩ = cv at *
          have hcv := hide hcv
          go_wp2
          go_ret
          exact ⟨by rw [unhide hl, unhide hst, if_neg (unhide hc2)]; rfl, hb2⟩
      · have kb : ¬ (k : Int) < (nB : Int) := by omega
        go_wp2
        go_ret
        exact ⟨by rw [unhide hl, lex_end2 (by rw [hA.len]; exact hlt) (by rw [hB.len]; omega)]; rfl, hbk.alloc hbk.size _⟩
    · have ki : ¬ (k : Int) < (nA : Int) := by omega
      by_cases hlb : k < nB
      · have kb : (nA : Int) < (nB : Int) := by omega
        go_wp2
        go_ret
        exact ⟨by rw [unhide hl, lex_end1 (by rw [hA.len]; omega) (by rw [hB.len]; exact hlb)]; rfl, hbk⟩
      · have kb : ¬ (nA : Int) < (nB : Int) := by omega
        go_wp2
        go_ret
        exact ⟨by rw [unhide hl, lex_end0 (by rw [hA.len]; omega) (by rw [hB.len]; omega)]; rfl, hbk⟩
end Go.Proofs.Ythpcpminikmcbaa.stp
namespace Go.Proofs.Ythpcpminikmcbaa.stp
open Go.ChangeShapes Go.WideShapes Go.ChangeAt Go.RowKit
set_option linter.unusedVariables false
theorem compare_any (aA aB : Option Addr) (nA cA nB cB : Nat) (A B : List St) (w : World) (hA : Pth w aA nA A) (hB : Pth w aB nB B) (bA : nA ≤ 4611686018427387903) (bB : nB ≤ 4611686018427387903) :
    Calls Try.prog 48 #[.slice aA nA cA, .slice aB nB cB] w fun e w' => e = .returned (.int .i64 (lexS A B)) ∧ Below w.heap.size w w' := by
  go_enter Try.func48, Try.ntmps48
  go_wp2_with fail
  refine (cmpFunc_any aA aB nA cA nB cB A B w hA hB bA bB).mono ?_
  rintro e w2 ⟨rfl, hb2⟩
  go_wp2
  go_ret
  exact ⟨rfl, hb2⟩
theorem Pth.take {w : World} {a : Option Addr} {n m : Nat} {ss : List St} (h : Pth w a n ss) (hm : m ≤ n) : Pth w a m (ss.take m) := by
  refine ⟨by simp [h.len]; omega, ?_⟩
  rcases h.at_ with h0 | ⟨b, off, ha, hlt, hc⟩
  · exact .inl (by omega)
  · refine .inr ⟨b, off, ha, hlt, fun i hi => ?_⟩
    obtain ⟨s, hs, k⟩ := hc i (by omega)
    exact ⟨s, by rw [List.getElem?_take_of_lt hi]; exact hs, k⟩
/-- does A lie at B or beneath it? -/
def undS (A B : List St) : Bool := decide (B.length ≤ A.length) && lexS (A.take B.length) B == 0
theorem lex_self : ∀ A : List St, lexS A A = 0
  | [] => rfl
  | a :: l => by
    have h : cS a a = 0 := by
      have := eqS_iff a.nm a.nm a.ix a.ix a.it a.it
      have e : eqS a.nm a.ix a.it a.nm a.ix a.it = true := by simp [eqS]
      rw [e] at this
      simpa using this.symm
    rw [lexS, if_pos h]
    exact lex_self l
theorem und_self (A : List St) : undS A A = true := by
  unfold undS
  rw [List.take_length, lex_self]
  simp
theorem pth_one (w : World) (b : Nat) (nm : ByteArray) (ix : Int) (it : Bool) (hb : b < w.heap.size) (h : St3 w b 0 nm ix it) : Pth w (some ⟨b, 0, none⟩) 1 [⟨nm, ix, it⟩] :=
  ⟨rfl, .inr ⟨b, 0, rfl, hb, fun i hi => by
    obtain rfl : i = 0 := by omega
    exact ⟨_, rfl, h⟩⟩⟩
end Go.Proofs.Ythpcpminikmcbaa.stp
namespace Go.Proofs.Ythpcpminikmcbaa.og
open Go.ChangeShapes Go.WideShapes Go.ChangeAt Go.RowKit
open vl hiding cB cFl cS cF cI cK cIt
open stp (c3 c3_lt c3_gt c3_eq cB cB_tri)
set_option linter.unusedVariables false
set_option linter.unusedSimpArgs false
/-- all that lay stays, draws are only added -/
def Gr (w w' : World) : Prop := Below w.heap.size w w' ∧ w.drawn ≤ w'.drawn
theorem Gr.refl (w : World) : Gr w w := ⟨Below.refl _ _, Nat.le_refl _⟩
theorem Gr.trans {a b c : World} (h : Gr a b) (k : Gr b c) : Gr a c := ⟨h.1.trans (k.1.mono h.1.size), Nat.le_trans h.2 k.2⟩
theorem Gr.alloc {a w : World} (h : Gr a w) (o : Obj) : Gr a (w.alloc o) := ⟨h.1.alloc h.1.size o, h.2⟩
theorem Gr.drew {a w : World} (h : Gr a w) : Gr a { w with drawn := w.drawn + 1 } := ⟨h.1.drew, Nat.le_succ_of_le h.2⟩
theorem drawn_setCells (b : Nat) : ∀ (vs : List Value) (o : Nat) (w : World), (w.setCells b o vs).drawn = w.drawn
  | [], o, w => rfl
  | v :: r, o, w => by rw [World.setCells, drawn_setCells b r (o + 1)]; rfl
theorem Gr.setCells {a w : World} (h : Gr a w) {b : Nat} (hb : a.heap.size ≤ b) (o : Nat) (vs : List Value) : Gr a (w.setCells b o vs) := ⟨below_setCells _ _ _ _ h.1 hb, by rw [drawn_setCells]; exact h.2⟩
/-- the kind that counts -/
def kdOf (k : Int) : Int := if k < 0 ∨ 7 < k then 0 else k
theorem kdOf_rng (k : Int) : kdOf k = 0 ∨ kdOf k = 1 ∨ kdOf k = 2 ∨ kdOf k = 3 ∨ kdOf k = 4 ∨ kdOf k = 5 ∨ kdOf k = 6 ∨ kdOf k = 7 := by
  unfold kdOf
  split <;> omega
def cBo (a b : Bool) : Int := if a = b then 0 else if b = true then -1 else 1
def sameF (a b : Nat) : Bool := (a == b) || (nanF a && nanF b)
def cmpF (a b : Nat) : Int := if nanF a = true then (if nanF b = true then 0 else -1) else if nanF b = true then 1 else if (FloatKind.f64.format.order a b == some Ordering.lt) = true then -1 else if (FloatKind.f64.format.order a b == some Ordering.gt) = true then 1 else 0
def sgn (a : Nat) : Bool := decide (9223372036854775808 ≤ a)
def cFl (a b : Nat) : Int := if sameF a b = true then 0 else if cmpF a b = 0 then cBo (sgn b) (sgn a) else cmpF a b
/-- element by element; the shorter one first -/
def lexG {α : Type} (f : α → α → Int) : List α → List α → Int
  | [], [] => 0
  | [], _ :: _ => -1
  | _ :: _, [] => 1
  | a :: l, b :: r => if f a b = 0 then lexG f l r else f a b
theorem lexG_end1 {α : Type} {f : α → α → Int} {A B : List α} {k : Nat} (hA : A.length ≤ k) (hB : k < B.length) : lexG f (A.drop k) (B.drop k) = -1 := by
  rw [List.drop_eq_nil_of_le hA, List.drop_eq_getElem_cons hB]
  rfl
theorem lexG_end2 {α : Type} {f : α → α → Int} {A B : List α} {k : Nat} (hA : k < A.length) (hB : B.length ≤ k) : lexG f (A.drop k) (B.drop k) = 1 := by
  rw [List.drop_eq_nil_of_le hB, List.drop_eq_getElem_cons hA]
  rfl
theorem lexG_end0 {α : Type} {f : α → α → Int} {A B : List α} {k : Nat} (hA : A.length ≤ k) (hB : B.length ≤ k) : lexG f (A.drop k) (B.drop k) = 0 := by
  rw [List.drop_eq_nil_of_le hB, List.drop_eq_nil_of_le hA]
  rfl
theorem lexG_step {α : Type} {f : α → α → Int} {A B : List α} {k : Nat} {a b : α} (hA : A[k]? = some a) (hB : B[k]? = some b) : lexG f (A.drop k) (B.drop k) = if f a b = 0 then lexG f (A.drop (k + 1)) (B.drop (k + 1)) else f a b := by
  obtain ⟨h1, rfl⟩ := List.getElem?_eq_some_iff.1 hA
  obtain ⟨h2, rfl⟩ := List.getElem?_eq_some_iff.1 hB
  rw [List.drop_eq_getElem_cons h1, List.drop_eq_getElem_cons h2]
  rfl
mutual
/-- the order of values -/
def ordV : Vl → Vl → Int
  | .mk kd b n f tx ty its fls, .mk kd' b' n' f' tx' ty' its' fls' =>
    if c3 (kdOf kd) (kdOf kd') = 0 then
      (if kdOf kd = 1 then cBo b b' else if kdOf kd = 2 then c3 n n' else if kdOf kd = 3 then cFl f f' else if kdOf kd = 4 then cB tx tx' else if kdOf kd = 5 then ordI its its' else if kdOf kd = 6 then ordF fls fls' else if kdOf kd = 7 then (if cB ty ty' = 0 then cB tx tx' else cB ty ty') else 0)
    else c3 (kdOf kd) (kdOf kd')
def ordI : Vls → Vls → Int
  | .nil, .nil => 0
  | .nil, .cons _ _ => -1
  | .cons _ _, .nil => 1
  | .cons v r, .cons u s => if ordV v u = 0 then ordI r s else ordV v u
def ordF : Fls → Fls → Int
  | .nil, .nil => 0
  | .nil, .cons _ _ _ => -1
  | .cons _ _ _, .nil => 1
  | .cons nm v r, .cons nm' u s => if (if cB nm nm' = 0 then ordV v u else cB nm nm') = 0 then ordF r s else (if cB nm nm' = 0 then ordV v u else cB nm nm')
end
/-- the order of members -/
def ordM (p q : ByteArray × Vl) : Int := if cB p.1 q.1 = 0 then ordV p.2 q.2 else cB p.1 q.1
theorem ordI_lex : ∀ a b : Vls, ordI a b = lexG ordV a.list b.list
  | .nil, .nil => by simp [ordI, Vls.list, lexG]
  | .nil, .cons _ _ => by simp [ordI, Vls.list, lexG]
  | .cons _ _, .nil => by simp [ordI, Vls.list, lexG]
  | .cons v r, .cons u s => by rw [ordI, ordI_lex r s]; rfl
theorem ordF_lex : ∀ a b : Fls, ordF a b = lexG ordM a.list b.list
  | .nil, .nil => by simp [ordF, Fls.list, lexG]
  | .nil, .cons _ _ _ => by simp [ordF, Fls.list, lexG]
  | .cons _ _ _, .nil => by simp [ordF, Fls.list, lexG]
  | .cons nm v r, .cons nm' u s => by rw [ordF, ordF_lex r s]; rfl
theorem sameF_self (f : Nat) : sameF f f = true := by simp [sameF]
theorem cB_self (a : ByteArray) : cB a a = 0 := by
  rcases cB_tri a a with ⟨_, _, h⟩ | ⟨h, _⟩ | ⟨_, _, h⟩
  · exact absurd rfl h
  · exact h
  · exact absurd rfl h
theorem lexG_self {α : Type} {f : α → α → Int} : ∀ l : List α, (∀ x ∈ l, f x x = 0) → lexG f l l = 0
  | [], _ => rfl
  | a :: l, h => by
    rw [lexG, if_pos (h a (List.mem_cons_self ..))]
    exact lexG_self l (fun x hx => h x (List.mem_cons_of_mem _ hx))
/-- a value is level with itself -/
theorem ordV_self : ∀ v : Vl, ordV v v = 0 := by
  refine Vl.all ?_
  intro kd b n f tx ty its fls hI hF
  rw [ordV, if_pos (c3_eq rfl), ordI_lex, ordF_lex, lexG_self its.list hI, lexG_self fls.list (fun q hq => by rw [ordM, cB_self, if_pos rfl]; exact hF q hq), cB_self, cB_self, c3_eq rfl]
  simp [cBo, cFl, sameF_self]
end Go.Proofs.Ythpcpminikmcbaa.og
namespace Go.Proofs.Ythpcpminikmcbaa.og
open Go.ChangeShapes Go.WideShapes Go.ChangeAt Go.RowKit
open vl hiding cB cFl cS cF cI cK cIt
open stp (c3 c3_lt c3_gt c3_eq cB cB_tri)
open mem (dec_fin dec_inf dec_nan word_of order_fin sv)
set_option linter.unusedVariables false
set_option linter.unusedSimpArgs false
/-- one of three answers -/
def Rg (s : Int) : Prop := s = -1 ∨ s = 0 ∨ s = 1
/-- how three elements stand to each other: one and two, two and three, one and three -/
def Tr (a b c : Int) : Prop := (a = 0 → c = b) ∧ (b = 0 → c = a) ∧ (a = b → c = a) ∧ (c = 0 → a = -b)
theorem Rg.c3 (x y : Int) : Rg (stp.c3 x y) := by unfold Rg stp.c3; split <;> (try split) <;> omega
theorem Tr.c3 (x y z : Int) : Tr (stp.c3 x y) (stp.c3 y z) (stp.c3 x z) := by
  unfold Tr stp.c3
  split <;> split <;> split <;> (try split) <;> (try split) <;> (try split) <;> omega
theorem c3_anti (x y : Int) : c3 y x = - c3 x y := by unfold stp.c3; split <;> split <;> (try split) <;> omega
/-- two comparisons, one behind the other -/
def thn (a b : Int) : Int := if a = 0 then b else a
theorem Rg.thn {a b : Int} (h : Rg a) (k : Rg b) : Rg (og.thn a b) := by unfold og.thn; split <;> assumption
theorem Tr.thn {a b c a' b' c' : Int} (ra : Rg a) (rb : Rg b) (rc : Rg c) (h : Tr a b c) (k : Tr a' b' c') : Tr (og.thn a a') (og.thn b b') (og.thn c c') := by
  unfold Tr at h k ⊢
  unfold Rg at ra rb rc
  unfold og.thn
  rcases ra with rfl | rfl | rfl <;> rcases rb with rfl | rfl | rfl <;> rcases rc with rfl | rfl | rfl <;> simp at h ⊢ <;> first | exact k | omega
/-- as above, the second asked only where the first is level -/
theorem Tr.thn' {a b c a' b' c' : Int} (ra : Rg a) (rb : Rg b) (rc : Rg c) (ra' : Rg a') (rb' : Rg b') (rc' : Rg c') (h : Tr a b c) (k : a = 0 → b = 0 → Tr a' b' c') : Tr (og.thn a a') (og.thn b b') (og.thn c c') := by
  unfold Tr at h k ⊢
  unfold Rg at ra rb rc ra' rb' rc'
  unfold og.thn
  rcases ra with rfl | rfl | rfl <;> rcases rb with rfl | rfl | rfl <;> rcases rc with rfl | rfl | rfl <;> simp at h k ⊢ <;> first | exact k | omega
theorem lexG_cons {α : Type} (f : α → α → Int) (a b : α) (l r : List α) : lexG f (a :: l) (b :: r) = thn (f a b) (lexG f l r) := rfl
theorem Rg.lexG {α : Type} {f : α → α → Int} : ∀ (l r : List α), (∀ a ∈ l, ∀ b ∈ r, Rg (f a b)) → Rg (og.lexG f l r)
  | [], [], _ => .inr (.inl rfl)
  | [], _ :: _, _ => .inl rfl
  | _ :: _, [], _ => .inr (.inr rfl)
  | a :: l, b :: r, h => by
    rw [lexG_cons]
    exact Rg.thn (h a (List.mem_cons_self ..) b (List.mem_cons_self ..)) (Rg.lexG l r (fun x hx y hy => h x (List.mem_cons_of_mem _ hx) y (List.mem_cons_of_mem _ hy)))
theorem Tr.lexG {α : Type} {f : α → α → Int} : ∀ (l r s : List α), (∀ a b, (a ∈ l ∨ a ∈ r) → (b ∈ r ∨ b ∈ s) → Rg (f a b)) → (∀ a ∈ l, ∀ b ∈ r, ∀ c ∈ s, Tr (f a b) (f b c) (f a c)) → Tr (og.lexG f l r) (og.lexG f r s) (og.lexG f l s)
  | [], [], [], _, _ => by simp [og.lexG, Tr]
  | [], [], _ :: _, _, _ => by simp [og.lexG, Tr]
  | [], _ :: _, [], _, _ => by simp [og.lexG, Tr]
  | _ :: _, [], [], _, _ => by simp [og.lexG, Tr]
  | _ :: _, [], _ :: _, _, _ => by simp [og.lexG, Tr]
  | [], b :: r, c :: s, hR, h => by
    have e : Rg (og.lexG f (b :: r) (c :: s)) := Rg.lexG _ _ (fun x hx y hy => hR x y (.inr hx) (.inr hy))
    generalize og.lexG f (b :: r) (c :: s) = q at *
    show Tr (-1) q (-1)
    unfold Rg at e
    unfold Tr
    omega
  | a :: l, b :: r, [], hR, h => by
    have e : Rg (og.lexG f (a :: l) (b :: r)) := Rg.lexG _ _ (fun x hx y hy => hR x y (.inl hx) (.inl hy))
    generalize og.lexG f (a :: l) (b :: r) = q at *
    show Tr q 1 1
    unfold Rg at e
    unfold Tr
    omega
  | a :: l, b :: r, c :: s, hR, h => by
    rw [lexG_cons, lexG_cons, lexG_cons]
    have ma : a ∈ a :: l := List.mem_cons_self ..
    have mb : b ∈ b :: r := List.mem_cons_self ..
    have mc : c ∈ c :: s := List.mem_cons_self ..
    exact Tr.thn (hR a b (.inl ma) (.inl mb)) (hR b c (.inr mb) (.inr mc)) (hR a c (.inl ma) (.inr mc)) (h a ma b mb c mc)
      (Tr.lexG l r s (fun x y hx hy => hR x y (hx.imp (List.mem_cons_of_mem _) (List.mem_cons_of_mem _)) (hy.imp (List.mem_cons_of_mem _) (List.mem_cons_of_mem _))) (fun x hx y hy z hz => h x (List.mem_cons_of_mem _ hx) y (List.mem_cons_of_mem _ hy) z (List.mem_cons_of_mem _ hz)))
theorem cmpBytes_lex : ∀ a b : List UInt8, Lib.compareBytes a b = lexG (fun x y => c3 (x.toNat : Int) (y.toNat : Int)) a b
  | [], [] => by simp [Lib.compareBytes, lexG]
  | [], _ :: _ => by simp [Lib.compareBytes, lexG]
  | _ :: _, [] => by simp [Lib.compareBytes, lexG]
  | x :: a, y :: b => by
    rw [lexG_cons, ← cmpBytes_lex a b]
    unfold thn
    by_cases h1 : x < y
    · have h1' : x.toNat < y.toNat := UInt8.lt_iff_toNat_lt.1 h1
      have hc : c3 (x.toNat : Int) (y.toNat : Int) = -1 := c3_lt (by omega)
      simp [Lib.compareBytes, h1, hc]
    · by_cases h2 : y < x
      · have h2' : y.toNat < x.toNat := UInt8.lt_iff_toNat_lt.1 h2
        have hc : c3 (x.toNat : Int) (y.toNat : Int) = 1 := c3_gt (by omega)
        simp [Lib.compareBytes, h1, h2, hc]
      · have e : x = y := UInt8.le_antisymm (UInt8.not_lt.1 h2) (UInt8.not_lt.1 h1)
        subst e
        have hc : c3 (x.toNat : Int) (x.toNat : Int) = 0 := c3_eq rfl
        simp [Lib.compareBytes, h1, hc]
theorem Rg.cB (a b : ByteArray) : Rg (stp.cB a b) := by unfold stp.cB; rw [cmpBytes_lex]; exact Rg.lexG _ _ (fun _ _ _ _ => Rg.c3 _ _)
theorem Tr.cB (a b c : ByteArray) : Tr (stp.cB a b) (stp.cB b c) (stp.cB a c) := by unfold stp.cB; rw [cmpBytes_lex, cmpBytes_lex, cmpBytes_lex]; exact Tr.lexG _ _ _ (fun _ _ _ _ => Rg.c3 _ _) (fun _ _ _ _ _ _ => Tr.c3 _ _ _)
theorem Rg.cBo (a b : Bool) : Rg (og.cBo a b) := by cases a <;> cases b <;> simp [og.cBo, Rg]
theorem Tr.cBo (a b c : Bool) : Tr (og.cBo a b) (og.cBo b c) (og.cBo a c) := by cases a <;> cases b <;> cases c <;> simp [og.cBo, Tr]
/-- a float's place among all floats -/
def keyF (x : Nat) : Int := if nanF x = true then -18446744073709551616 else if 9223372036854775808 ≤ x then -((x % 9223372036854775808 : Nat) : Int) - 1 else ((x % 9223372036854775808 : Nat) : Int)
theorem ord_num (s t : Bool) (r q : Nat) (hr : r ≤ 9218868437227405312) (hq : q ≤ 9218868437227405312) : FloatKind.f64.format.order (Ieee.double.word s r) (Ieee.double.word t q) = some (compare (sv s (mem.vR r)) (sv t (mem.vR q))) := by
  show (FloatKind.f64.decode _).order (FloatKind.f64.decode _) = _
  rcases Nat.lt_or_eq_of_le hr with h1 | h1
  · rcases Nat.lt_or_eq_of_le hq with h2 | h2
    · rw [dec_fin s r h1, dec_fin t q h2, order_fin]; rfl
    · have hv : mem.vR r < mem.vR q := mem.vR_mono (by omega)
      subst h2
      rw [dec_fin s r h1, dec_inf]
      generalize mem.vR 9218868437227405312 = B at *
      generalize mem.vR r = A at *
      have : compare (sv s A) (sv t B) = if t = true then Ordering.gt else Ordering.lt := by
        cases t
        · simp only [Bool.false_eq_true, if_false]; rw [Int.compare_eq_lt]; cases s <;> simp [sv] <;> omega
        · simp only [if_true]; rw [Int.compare_eq_gt]; cases s <;> simp [sv] <;> omega
      rw [this]
      cases t <;> rfl
  · rcases Nat.lt_or_eq_of_le hq with h2 | h2
    · have hv : mem.vR q < mem.vR r := mem.vR_mono (by omega)
      subst h1
      rw [dec_fin t q h2, dec_inf]
      generalize mem.vR 9218868437227405312 = B at *
      generalize mem.vR q = A at *
      have : compare (sv s B) (sv t A) = if s = true then Ordering.lt else Ordering.gt := by
        cases s
        · simp only [Bool.false_eq_true, if_false]; rw [Int.compare_eq_gt]; cases t <;> simp [sv] <;> omega
        · simp only [if_true]; rw [Int.compare_eq_lt]; cases t <;> simp [sv] <;> omega
      rw [this]
      cases s <;> rfl
    · subst h1 h2
      rw [dec_inf, dec_inf]
      have hp : 0 < mem.vR 9218868437227405312 := Nat.lt_of_le_of_lt (Nat.zero_le _) (mem.vR_mono (a := 0) (by omega))
      generalize mem.vR 9218868437227405312 = B at *
      cases s <;> cases t
      · rw [Int.compare_eq_eq.2 rfl]; rfl
      · rw [show compare (sv false B) (sv true B) = Ordering.gt by rw [Int.compare_eq_gt]; simp [sv]; omega]; rfl
      · rw [show compare (sv true B) (sv false B) = Ordering.lt by rw [Int.compare_eq_lt]; simp [sv]; omega]; rfl
      · rw [Int.compare_eq_eq.2 rfl]; rfl
theorem cFl_key (a b : Nat) (ha : a < 18446744073709551616) (hb : b < 18446744073709551616) : cFl a b = c3 (keyF a) (keyF b) := by
  unfold cFl sameF cmpF keyF
  cases hA : nanF a <;> cases hB : nanF b
  · simp only [Bool.false_eq_true, if_false, Bool.and_false, Bool.false_and, Bool.or_false]
    have nA : a % 9223372036854775808 ≤ 9218868437227405312 := by unfold nanF at hA; simpa using hA
    have nB : b % 9223372036854775808 ≤ 9218868437227405312 := by unfold nanF at hB; simpa using hB
    have ho := ord_num (sgn a) (sgn b) _ _ nA nB
    unfold sgn at ho
    rw [word_of a ha, word_of b hb] at ho
    have vm : ∀ x y : Nat, x < y → mem.vR x < mem.vR y := fun x y h => mem.vR_mono h
    have vi : ∀ x y : Nat, x = y → mem.vR x = mem.vR y := fun x y h => by rw [h]
    have ea : ∃ r, a % 9223372036854775808 = r := ⟨_, rfl⟩
    have eb : ∃ q, b % 9223372036854775808 = q := ⟨_, rfl⟩
    obtain ⟨r, er⟩ := ea
    obtain ⟨q, eq⟩ := eb
    rw [er, eq] at ho
    rw [er, eq]
    rw [ho]
    by_cases hab : a = b
    · subst hab
      obtain rfl : r = q := er.symm.trans eq
      simp [c3]
    · have hab' : (a == b) = false := by simpa using hab
      rw [hab']
      simp only [Bool.false_eq_true, if_false]
      have z0 : mem.vR 0 = 0 := by simp [mem.vR, mem.mantR, mem.b52]
      have hz : ∀ x : Nat, 0 < x → 0 < mem.vR x := fun x hx => by have := vm 0 x hx; omega
      have key : compare (sv (decide (9223372036854775808 ≤ a)) (mem.vR r)) (sv (decide (9223372036854775808 ≤ b)) (mem.vR q)) = if r = 0 ∧ q = 0 then Ordering.eq else if (if 9223372036854775808 ≤ a then -(r : Int) - 1 else (r : Int)) < (if 9223372036854775808 ≤ b then -(q : Int) - 1 else (q : Int)) then Ordering.lt else Ordering.gt := by
        by_cases h00 : r = 0 ∧ q = 0
        · rw [if_pos h00, h00.1, h00.2, z0, Int.compare_eq_eq]
          by_cases sa : 9223372036854775808 ≤ a <;> by_cases sb : 9223372036854775808 ≤ b <;> simp [sv, sa, sb]
        · rw [if_neg h00]
          by_cases sa : 9223372036854775808 ≤ a <;> by_cases sb : 9223372036854775808 ≤ b <;> simp only [sa, sb, decide_true, decide_false, if_true, if_false, sv, Bool.false_eq_true]
          · rcases Nat.lt_trichotomy r q with h | h | h
            · have := vm _ _ h; rw [if_neg (by omega), Int.compare_eq_gt]; omega
            · exfalso; omega
            · have := vm _ _ h; rw [if_pos (by omega), Int.compare_eq_lt]; omega
          · rw [if_pos (by omega), Int.compare_eq_lt]
            rcases Nat.eq_zero_or_pos r with h | h
            · have := hz q (by omega); omega
            · have := hz r h; omega
          · rw [if_neg (by omega), Int.compare_eq_gt]
            rcases Nat.eq_zero_or_pos r with h | h
            · have := hz q (by omega); omega
            · have := hz r h; omega
          · rcases Nat.lt_trichotomy r q with h | h | h
            · have := vm _ _ h; rw [if_pos (by omega), Int.compare_eq_lt]; omega
            · exfalso; omega
            · have := vm _ _ h; rw [if_neg (by omega), Int.compare_eq_gt]; omega
      rw [key]
      clear key ho vm vi z0 hz
      by_cases h00 : r = 0 ∧ q = 0
      · obtain ⟨rfl, rfl⟩ := h00
        simp only [and_self, if_true]
        have e1 : (some Ordering.eq == some Ordering.lt) = false := by decide
        have e2 : (some Ordering.eq == some Ordering.gt) = false := by decide
        rw [e1, e2]
        simp only [Bool.false_eq_true, if_false, if_true]
        unfold cBo sgn c3
        by_cases sa : 9223372036854775808 ≤ a <;> by_cases sb : 9223372036854775808 ≤ b <;> simp [sa, sb] <;> omega
      · rw [if_neg h00]
        by_cases hlt : (if 9223372036854775808 ≤ a then -(r : Int) - 1 else (r : Int)) < (if 9223372036854775808 ≤ b then -(q : Int) - 1 else (q : Int))
        · rw [if_pos hlt, c3_lt hlt]
          rfl
        · have hne : (if 9223372036854775808 ≤ b then -(q : Int) - 1 else (q : Int)) < (if 9223372036854775808 ≤ a then -(r : Int) - 1 else (r : Int)) := by
            by_cases sa : 9223372036854775808 ≤ a <;> by_cases sb : 9223372036854775808 ≤ b <;> simp only [sa, sb, if_true, if_false] at hlt ⊢ <;> omega
          rw [if_neg hlt, c3_gt hne]
          rfl
  · have hne : (a == b) = false := by
      cases h : (a == b)
      · rfl
      · rw [eq_of_beq h] at hA; rw [hA] at hB; cases hB
    rw [hne]
    simp only [Bool.false_eq_true, if_false, if_true, Bool.false_and, Bool.or_false, Bool.false_or]
    rw [c3_gt (by split <;> omega)]
    rfl
  · have hne : (a == b) = false := by
      cases h : (a == b)
      · rfl
      · rw [eq_of_beq h] at hA; rw [hA] at hB; cases hB
    rw [hne]
    simp only [Bool.false_eq_true, if_false, if_true, Bool.and_false, Bool.or_false, Bool.false_or]
    rw [c3_lt (by split <;> omega)]
    rfl
  · simp [c3]
end Go.Proofs.Ythpcpminikmcbaa.og
namespace Go.Proofs.Ythpcpminikmcbaa.og
open Go.ChangeShapes Go.WideShapes Go.ChangeAt Go.RowKit
open vl hiding cB cFl cS cF cI cK cIt
open stp (c3 c3_lt c3_gt c3_eq cB cB_tri)
set_option linter.unusedVariables false
set_option linter.unusedSimpArgs false
def kdW : Vl → Int
  | .mk kd _ _ _ _ _ _ _ => kdOf kd
def kidsI : Vl → List Vl
  | .mk _ _ _ _ _ _ its _ => its.list
def kidsF : Vl → List (ByteArray × Vl)
  | .mk _ _ _ _ _ _ _ fls => fls.list
/-- how two values of one kind stand to each other -/
def leafV (K : Int) : Vl → Vl → Int
  | .mk _ b n f tx ty its fls, .mk _ b' n' f' tx' ty' its' fls' => if K = 1 then cBo b b' else if K = 2 then c3 n n' else if K = 3 then cFl f f' else if K = 4 then cB tx tx' else if K = 5 then lexG ordV its.list its'.list else if K = 6 then lexG ordM fls.list fls'.list else if K = 7 then thn (cB ty ty') (cB tx tx') else 0
theorem ordV_thn (v u : Vl) : ordV v u = thn (c3 (kdW v) (kdW u)) (leafV (kdW v) v u) := by
  obtain ⟨kd, b, n, f, tx, ty, its, fls⟩ := v
  obtain ⟨kd', b', n', f', tx', ty', its', fls'⟩ := u
  rw [ordV, ordI_lex, ordF_lex]
  rfl
theorem ordM_thn (p q : ByteArray × Vl) : ordM p q = thn (cB p.1 q.1) (ordV p.2 q.2) := rfl
theorem rg_leaf (K : Int) (v u : Vl) (hs : Small v) (hu : Small u) (hI : ∀ x y, x ∈ kidsI v → y ∈ kidsI u → Rg (ordV x y)) (hF : ∀ x y, x ∈ kidsF v → y ∈ kidsF u → Rg (ordM x y)) : Rg (leafV K v u) := by
  obtain ⟨kd, b, n, f, tx, ty, its, fls⟩ := v
  obtain ⟨kd', b', n', f', tx', ty', its', fls'⟩ := u
  unfold Small at hs hu
  simp only [leafV]
  split
  · exact Rg.cBo _ _
  · split
    · exact Rg.c3 _ _
    · split
      · rw [cFl_key _ _ hs.2.2.1 hu.2.2.1]; exact Rg.c3 _ _
      · split
        · exact Rg.cB _ _
        · split
          · exact Rg.lexG _ _ (fun x hx y hy => hI x y hx hy)
          · split
            · exact Rg.lexG _ _ (fun x hx y hy => hF x y hx hy)
            · split
              · exact Rg.thn (Rg.cB _ _) (Rg.cB _ _)
              · exact .inr (.inl rfl)
theorem Rg.ordV : ∀ v : Vl, Small v → ∀ u : Vl, Small u → Rg (og.ordV v u) := by
  refine Vl.all ?_
  intro kd b n f tx ty its fls hI hF hs u hu
  rw [ordV_thn]
  have h1 := hs
  have h2 := hu
  obtain ⟨kd', b', n', f', tx', ty', its', fls'⟩ := u
  unfold Small at h1 h2
  exact Rg.thn (Rg.c3 _ _) (rg_leaf _ _ _ hs hu (fun x y hx hy => hI x hx (h1.2.2.2.1.all x hx) y (h2.2.2.2.1.all y hy)) (fun x y hx hy => Rg.thn (Rg.cB _ _) (hF x hx (h1.2.2.2.2.all x hx) y.2 (h2.2.2.2.2.all y hy))))
theorem Rg.ordM (p q : ByteArray × Vl) (hp : Small p.2) (hq : Small q.2) : Rg (og.ordM p q) := Rg.thn (Rg.cB _ _) (Rg.ordV _ hp _ hq)
theorem rg_leaf' (K : Int) (v u : Vl) (hs : Small v) (hu : Small u) : Rg (leafV K v u) := by
  have h1 := hs
  have h2 := hu
  obtain ⟨kd, b, n, f, tx, ty, its, fls⟩ := v
  obtain ⟨kd', b', n', f', tx', ty', its', fls'⟩ := u
  unfold Small at h1 h2
  exact rg_leaf K _ _ hs hu (fun x y hx hy => Rg.ordV x (h1.2.2.2.1.all x hx) y (h2.2.2.2.1.all y hy)) (fun x y hx hy => Rg.ordM x y (h1.2.2.2.2.all x hx) (h2.2.2.2.2.all y hy))
theorem c3_zero' {x t : Int} (h : c3 x t = 0) : x = t := by
  unfold stp.c3 at h
  split at h
  · omega
  · split at h <;> omega
theorem Tr.ordV : ∀ v : Vl, Small v → ∀ u : Vl, Small u → ∀ w : Vl, Small w → Tr (og.ordV v u) (og.ordV u w) (og.ordV v w) := by
  refine Vl.all ?_
  intro kd b n f tx ty its fls hI hF hs u hu w hw
  rw [ordV_thn _ u, ordV_thn u w, ordV_thn _ w]
  refine Tr.thn' (Rg.c3 _ _) (Rg.c3 _ _) (Rg.c3 _ _) (rg_leaf' _ _ _ hs hu) (rg_leaf' _ _ _ hu hw) (rg_leaf' _ _ _ hs hw) (Tr.c3 _ _ _) (fun e1 e2 => ?_)
  have e1 := c3_zero' e1
  rw [← e1]
  generalize kdW (.mk kd b n f tx ty its fls) = K at *
  clear e1 e2
  obtain ⟨kd', b', n', f', tx', ty', its', fls'⟩ := u
  obtain ⟨kd2, b2, n2, f2, tx2, ty2, its2, fls2⟩ := w
  unfold Small at hs hu hw
  simp only [leafV]
  split
  · exact Tr.cBo _ _ _
  · split
    · exact Tr.c3 _ _ _
    · split
      · rw [cFl_key _ _ hs.2.2.1 hu.2.2.1, cFl_key _ _ hu.2.2.1 hw.2.2.1, cFl_key _ _ hs.2.2.1 hw.2.2.1]; exact Tr.c3 _ _ _
      · split
        · exact Tr.cB _ _ _
        · split
          · exact Tr.lexG _ _ _ (fun x y hx hy => Rg.ordV x (hx.elim (hs.2.2.2.1.all x) (hu.2.2.2.1.all x)) y (hy.elim (hu.2.2.2.1.all y) (hw.2.2.2.1.all y))) (fun x hx y hy z hz => hI x hx (hs.2.2.2.1.all x hx) y (hu.2.2.2.1.all y hy) z (hw.2.2.2.1.all z hz))
          · split
            · refine Tr.lexG _ _ _ (fun x y hx hy => Rg.ordM x y (hx.elim (hs.2.2.2.2.all x) (hu.2.2.2.2.all x)) (hy.elim (hu.2.2.2.2.all y) (hw.2.2.2.2.all y))) (fun x hx y hy z hz => ?_)
              exact Tr.thn (Rg.cB _ _) (Rg.cB _ _) (Rg.cB _ _) (Tr.cB _ _ _) (hF x hx (hs.2.2.2.2.all x hx) y.2 (hu.2.2.2.2.all y hy) z.2 (hw.2.2.2.2.all z hz))
            · split
              · exact Tr.thn (Rg.cB _ _) (Rg.cB _ _) (Rg.cB _ _) (Tr.cB _ _ _) (Tr.cB _ _ _)
              · simp [Tr]
theorem Tr.ordM (p q r : ByteArray × Vl) (hp : Small p.2) (hq : Small q.2) (hr : Small r.2) : Tr (og.ordM p q) (og.ordM q r) (og.ordM p r) :=
  Tr.thn (Rg.cB _ _) (Rg.cB _ _) (Rg.cB _ _) (Tr.cB _ _ _) (Tr.ordV _ hp _ hq _ hr)
/-- the other way about -/
theorem ordV_anti (v u : Vl) (hv : Small v) (hu : Small u) : ordV u v = - ordV v u := by
  have h := Tr.ordV v hv u hu v hv
  rw [ordV_self] at h
  have r1 := Rg.ordV v hv u hu
  have r2 := Rg.ordV u hu v hv
  unfold Tr at h
  unfold Rg at r1 r2
  omega
end Go.Proofs.Ythpcpminikmcbaa.og
namespace Go.Proofs.Ythpcpminikmcbaa.og
open Go.ChangeShapes Go.WideShapes Go.ChangeAt Go.RowKit
open vl hiding cB cFl cS cF cI cK cIt
set_option linter.unusedVariables false
set_option linter.unusedSimpArgs false
mutual
/-- these eight cells are the value v, and none of its lists lies in a block of Q -/
def AvC (Q : Nat → Prop) (w : World) : Vl → List Value → Prop
  | .mk kd b n f tx ty its fls, cs => ∃ (ai : Option Addr) (ni ci : Nat) (af : Option Addr) (nf cf : Nat), cs = [.int .i64 kd, .bool b, .int .i64 n, .float .f64 f, .string tx, .string ty, .slice ai ni ci, .slice af nf cf] ∧
      AvI Q w its ai ni ∧ AvF Q w fls af nf ∧ ni ≤ ci ∧ nf ≤ cf ∧ (ai = none → ci = 0) ∧ (af = none → cf = 0) ∧ (Lit.int .i64 kd).wf = true ∧ (Lit.int .i64 n).wf = true ∧ tx.size ≤ maxLen ∧ ty.size ≤ maxLen ∧ ci ≤ maxLen ∧ cf ≤ maxLen
def AvI (Q : Nat → Prop) (w : World) : Vls → Option Addr → Nat → Prop
  | .nil, _, n => n = 0
  | .cons v r, a, n => ∃ (b off m : Nat) (cs : List Value), a = some ⟨b, off, none⟩ ∧ n = m + 1 ∧ ¬ Q b ∧ Row8 w b off cs ∧ AvC Q w v cs ∧ AvI Q w r (some ⟨b, off + 8, none⟩) m
def AvF (Q : Nat → Prop) (w : World) : Fls → Option Addr → Nat → Prop
  | .nil, _, n => n = 0
  | .cons nm v r, a, n => ∃ (b off m : Nat) (cs : List Value), a = some ⟨b, off, none⟩ ∧ n = m + 1 ∧ ¬ Q b ∧ w.cell? ⟨b, off, none⟩ = some (.string nm) ∧ nm.size ≤ maxLen ∧ Row8 w b (off + 1) cs ∧ AvC Q w v cs ∧ AvF Q w r (some ⟨b, off + 9, none⟩) m
end
mutual
theorem AvC.read {Q : Nat → Prop} {w : World} : ∀ (v : Vl) (cs : List Value), AvC Q w v cs → VlC w v cs
  | .mk kd b n f tx ty its fls, cs, h => by
    unfold AvC at h
    unfold VlC
    obtain ⟨ai, ni, ci, af, nf, cf, rfl, h1, h2, r⟩ := h
    exact ⟨ai, ni, ci, af, nf, cf, rfl, AvI.read its ai ni h1, AvF.read fls af nf h2, r⟩
theorem AvI.read {Q : Nat → Prop} {w : World} : ∀ (l : Vls) (a : Option Addr) (n : Nat), AvI Q w l a n → VlsAt w l a n
  | .nil, a, n, h => by unfold AvI at h; unfold VlsAt; exact h
  | .cons v r, a, n, h => by
    unfold AvI at h
    unfold VlsAt
    obtain ⟨b, off, m, cs, rfl, rfl, _, h1, h2, h3⟩ := h
    exact ⟨b, off, m, cs, rfl, rfl, h1, AvC.read v cs h2, AvI.read r _ m h3⟩
theorem AvF.read {Q : Nat → Prop} {w : World} : ∀ (l : Fls) (a : Option Addr) (n : Nat), AvF Q w l a n → FlsAt w l a n
  | .nil, a, n, h => by unfold AvF at h; unfold FlsAt; exact h
  | .cons nm v r, a, n, h => by
    unfold AvF at h
    unfold FlsAt
    obtain ⟨b, off, m, cs, rfl, rfl, _, h0, hz, h1, h2, h3⟩ := h
    exact ⟨b, off, m, cs, rfl, rfl, h0, hz, h1, AvC.read v cs h2, AvF.read r _ m h3⟩
end
theorem AvC.cells {Q : Nat → Prop} {w : World} {v : Vl} {cs : List Value} (h : AvC Q w v cs) : cs.length = 8 := (AvC.read v cs h).cells
theorem Row8.lt {w : World} {b off : Nat} {cs : List Value} (h : Row8 w b off cs) (h8 : cs.length = 8) : b < w.heap.size := by
  obtain ⟨a, b', c, d, e, f, g, i, rfl⟩ := list_eight h8
  exact World.block_lt_of_cell? w _ (h 0 a rfl)
mutual
/-- what is read so is read so in every world that agrees outside Q' -/
theorem AvC.agree {Q Q' : Nat → Prop} {w W : World} (hq : ∀ b, b < w.heap.size → ¬ Q b → ¬ Q' b) (ha : ∀ b j, b < w.heap.size → ¬ Q b → W.cell? ⟨b, j, none⟩ = w.cell? ⟨b, j, none⟩) : ∀ (v : Vl) (cs : List Value), AvC Q w v cs → AvC Q' W v cs
  | .mk kd b n f tx ty its fls, cs, h => by
    unfold AvC at h ⊢
    obtain ⟨ai, ni, ci, af, nf, cf, rfl, h1, h2, r⟩ := h
    exact ⟨ai, ni, ci, af, nf, cf, rfl, AvI.agree hq ha its ai ni h1, AvF.agree hq ha fls af nf h2, r⟩
theorem AvI.agree {Q Q' : Nat → Prop} {w W : World} (hq : ∀ b, b < w.heap.size → ¬ Q b → ¬ Q' b) (ha : ∀ b j, b < w.heap.size → ¬ Q b → W.cell? ⟨b, j, none⟩ = w.cell? ⟨b, j, none⟩) : ∀ (l : Vls) (a : Option Addr) (n : Nat), AvI Q w l a n → AvI Q' W l a n
  | .nil, a, n, h => by unfold AvI at h ⊢; exact h
  | .cons v r, a, n, h => by
    unfold AvI at h ⊢
    obtain ⟨b, off, m, cs, rfl, rfl, hb, h1, h2, h3⟩ := h
    have hl := Row8.lt h1 h2.cells
    exact ⟨b, off, m, cs, rfl, rfl, hq b hl hb, fun i u hu => (ha b _ hl hb).trans (h1 i u hu), AvC.agree hq ha v cs h2, AvI.agree hq ha r _ m h3⟩
theorem AvF.agree {Q Q' : Nat → Prop} {w W : World} (hq : ∀ b, b < w.heap.size → ¬ Q b → ¬ Q' b) (ha : ∀ b j, b < w.heap.size → ¬ Q b → W.cell? ⟨b, j, none⟩ = w.cell? ⟨b, j, none⟩) : ∀ (l : Fls) (a : Option Addr) (n : Nat), AvF Q w l a n → AvF Q' W l a n
  | .nil, a, n, h => by unfold AvF at h ⊢; exact h
  | .cons nm v r, a, n, h => by
    unfold AvF at h ⊢
    obtain ⟨b, off, m, cs, rfl, rfl, hb, h0, hz, h1, h2, h3⟩ := h
    have hl := Row8.lt h1 h2.cells
    exact ⟨b, off, m, cs, rfl, rfl, hq b hl hb, (ha b _ hl hb).trans h0, hz, fun i u hu => (ha b _ hl hb).trans (h1 i u hu), AvC.agree hq ha v cs h2, AvF.agree hq ha r _ m h3⟩
end
mutual
theorem AvC.of {w : World} : ∀ (v : Vl) (cs : List Value), VlC w v cs → AvC (fun _ => False) w v cs
  | .mk kd b n f tx ty its fls, cs, h => by
    unfold VlC at h
    unfold AvC
    obtain ⟨ai, ni, ci, af, nf, cf, rfl, h1, h2, r⟩ := h
    exact ⟨ai, ni, ci, af, nf, cf, rfl, AvI.of its ai ni h1, AvF.of fls af nf h2, r⟩
theorem AvI.of {w : World} : ∀ (l : Vls) (a : Option Addr) (n : Nat), VlsAt w l a n → AvI (fun _ => False) w l a n
  | .nil, a, n, h => by unfold VlsAt at h; unfold AvI; exact h
  | .cons v r, a, n, h => by
    unfold VlsAt at h
    unfold AvI
    obtain ⟨b, off, m, cs, rfl, rfl, h1, h2, h3⟩ := h
    exact ⟨b, off, m, cs, rfl, rfl, fun h => h, h1, AvC.of v cs h2, AvI.of r _ m h3⟩
theorem AvF.of {w : World} : ∀ (l : Fls) (a : Option Addr) (n : Nat), FlsAt w l a n → AvF (fun _ => False) w l a n
  | .nil, a, n, h => by unfold FlsAt at h; unfold AvF; exact h
  | .cons nm v r, a, n, h => by
    unfold FlsAt at h
    unfold AvF
    obtain ⟨b, off, m, cs, rfl, rfl, h0, hz, h1, h2, h3⟩ := h
    exact ⟨b, off, m, cs, rfl, rfl, fun h => h, h0, hz, h1, AvC.of v cs h2, AvF.of r _ m h3⟩
end
/-- in a later world -/
theorem AvC.below {Q : Nat → Prop} {w W : World} {v : Vl} {cs : List Value} (h : AvC Q w v cs) (hb : Below w.heap.size w W) : AvC Q W v cs := AvC.agree (fun _ _ h => h) (fun b j hl _ => hb.cell (p := ⟨b, j, none⟩) hl) v cs h
/-- a block that was not there yet may be added to Q -/
theorem AvC.add {Q : Nat → Prop} {w : World} {v : Vl} {cs : List Value} {p : Nat} (h : AvC Q w v cs) (hp : w.heap.size ≤ p) : AvC (fun b => Q b ∨ b = p) w v cs := AvC.agree (fun b hl hn e => e.elim hn (fun e => by omega)) (fun _ _ _ _ => rfl) v cs h
theorem AvC.sub {Q Q' : Nat → Prop} {w : World} {v : Vl} {cs : List Value} (h : AvC Q w v cs) (hs : ∀ b, Q' b → Q b) : AvC Q' w v cs := AvC.agree (fun b _ hn e => hn (hs b e)) (fun _ _ _ _ => rfl) v cs h
mutual
theorem OwC.av {Q : Nat → Prop} {w : World} : ∀ (v : Vl) (cs : List Value) (F : List Nat), (∀ b ∈ F, ¬ Q b) → OwC w v cs F → AvC Q w v cs
  | .mk kd b n f tx ty its fls, cs, F, hF, h => by
    unfold OwC at h
    unfold AvC
    obtain ⟨ai, ni, ci, af, nf, cf, Fi, Ff, rfl, h1, h2, r1, r2, r3, r4, r5, r6, r7, r8, r9, r10, rfl⟩ := h
    refine ⟨ai, ni, ci, af, nf, cf, rfl, ?_, ?_, r1, r2, r3, r4, r5, r6, r7, r8, r9, r10⟩
    · rcases h1 with ⟨rfl, rfl, rfl, -⟩ | ⟨p, G, rfl, rfl, h1⟩
      · unfold AvI; rfl
      · exact OwsIn.av its p 0 ni G (fun b hb => hF b (List.mem_append_left _ hb)) h1
    · rcases h2 with ⟨rfl, rfl, rfl, -⟩ | ⟨p, G, rfl, rfl, h2⟩
      · unfold AvF; rfl
      · exact OwfIn.av fls p 0 nf G (fun b hb => hF b (List.mem_append_right _ hb)) h2
theorem OwsIn.av {Q : Nat → Prop} {w : World} : ∀ (l : Vls) (p off n : Nat) (G : List Nat), (∀ b ∈ p :: G, ¬ Q b) → OwsIn w l p off n G → AvI Q w l (some ⟨p, off, none⟩) n
  | .nil, p, off, n, G, hF, h => by unfold OwsIn at h; unfold AvI; exact h.1
  | .cons v r, p, off, n, G, hF, h => by
    unfold OwsIn at h
    unfold AvI
    obtain ⟨m, cs, G1, G2, rfl, h1, h2, h3, rfl⟩ := h
    exact ⟨p, off, m, cs, rfl, rfl, hF p (List.mem_cons_self ..), h1, OwC.av v cs G1 (fun b hb => hF b (List.mem_cons_of_mem _ (List.mem_append_left _ hb))) h2, OwsIn.av r p _ m G2 (fun b hb => hF b (by simp at hb ⊢; rcases hb with h | h <;> simp [h])) h3⟩
theorem OwfIn.av {Q : Nat → Prop} {w : World} : ∀ (l : Fls) (p off n : Nat) (G : List Nat), (∀ b ∈ p :: G, ¬ Q b) → OwfIn w l p off n G → AvF Q w l (some ⟨p, off, none⟩) n
  | .nil, p, off, n, G, hF, h => by unfold OwfIn at h; unfold AvF; exact h.1
  | .cons nm v r, p, off, n, G, hF, h => by
    unfold OwfIn at h
    unfold AvF
    obtain ⟨m, cs, G1, G2, rfl, h0, hz, h1, h2, h3, rfl⟩ := h
    exact ⟨p, off, m, cs, rfl, rfl, hF p (List.mem_cons_self ..), h0, hz, h1, OwC.av v cs G1 (fun b hb => hF b (List.mem_cons_of_mem _ (List.mem_append_left _ hb))) h2, OwfIn.av r p _ m G2 (fun b hb => hF b (by simp at hb ⊢; rcases hb with h | h <;> simp [h])) h3⟩
end
/-- the i-th value of a list -/
theorem AvI.get {Q : Nat → Prop} {w : World} : ∀ (l : Vls) (a : Option Addr) (n : Nat), AvI Q w l a n → ∀ i, i < n → ∃ (b off : Nat) (v : Vl) (cs : List Value), a = some ⟨b, off, none⟩ ∧ l.list[i]? = some v ∧ ¬ Q b ∧ Row8 w b (off + i * 8) cs ∧ AvC Q w v cs
  | .nil, a, n, h, i, hi => by unfold AvI at h; omega
  | .cons v r, a, n, h, i, hi => by
    unfold AvI at h
    obtain ⟨b, off, m, cs, rfl, rfl, hq, h1, h2, h3⟩ := h
    match i with
    | 0 => exact ⟨b, off, v, cs, rfl, rfl, hq, by simpa using h1, h2⟩
    | i + 1 =>
      obtain ⟨b', off', v', cs', e, g, q, r1, r2⟩ := AvI.get r _ m h3 i (by omega)
      simp only [Option.some.injEq, Addr.mk.injEq, and_true] at e
      obtain ⟨rfl, rfl⟩ := e
      exact ⟨b, off, v', cs', rfl, by simpa [Vls.list] using g, hq, by rw [show off + (i + 1) * 8 = off + 8 + i * 8 by omega]; exact r1, r2⟩
theorem AvF.get {Q : Nat → Prop} {w : World} : ∀ (l : Fls) (a : Option Addr) (n : Nat), AvF Q w l a n → ∀ i, i < n → ∃ (b off : Nat) (nm : ByteArray) (v : Vl) (cs : List Value), a = some ⟨b, off, none⟩ ∧ l.list[i]? = some (nm, v) ∧ ¬ Q b ∧ w.cell? ⟨b, off + i * 9, none⟩ = some (.string nm) ∧ nm.size ≤ maxLen ∧ Row8 w b (off + i * 9 + 1) cs ∧ AvC Q w v cs
  | .nil, a, n, h, i, hi => by unfold AvF at h; omega
  | .cons nm v r, a, n, h, i, hi => by
    unfold AvF at h
    obtain ⟨b, off, m, cs, rfl, rfl, hq, h0, hz, h1, h2, h3⟩ := h
    match i with
    | 0 => exact ⟨b, off, nm, v, cs, rfl, rfl, hq, by simpa using h0, hz, by simpa using h1, h2⟩
    | i + 1 =>
      obtain ⟨b', off', nm', v', cs', e, g, q, r0, rz, r1, r2⟩ := AvF.get r _ m h3 i (by omega)
      simp only [Option.some.injEq, Addr.mk.injEq, and_true] at e
      obtain ⟨rfl, rfl⟩ := e
      exact ⟨b, off, nm', v', cs', rfl, by simpa [Fls.list] using g, hq, by rw [show off + (i + 1) * 9 = off + 9 + i * 9 by omega]; exact r0, rz, by rw [show off + (i + 1) * 9 + 1 = off + 9 + i * 9 + 1 by omega]; exact r1, r2⟩
/-- a row of values, told by index -/
def RowI (Q : Nat → Prop) (w : World) (p : Nat) (l : List Vl) : Prop := ∀ i v, l[i]? = some v → ∃ cs, Row8 w p (i * 8) cs ∧ AvC Q w v cs
def RowF (Q : Nat → Prop) (w : World) (p : Nat) (l : List (ByteArray × Vl)) : Prop := ∀ i q, l[i]? = some q → ∃ cs, w.cell? ⟨p, i * 9, none⟩ = some (.string q.1) ∧ q.1.size ≤ maxLen ∧ Row8 w p (i * 9 + 1) cs ∧ AvC Q w q.2 cs
theorem AvI.mk {Q : Nat → Prop} {w : World} {p : Nat} (hp : ¬ Q p) : ∀ (l : List Vl) (off : Nat), (∀ i v, l[i]? = some v → ∃ cs, Row8 w p (off + i * 8) cs ∧ AvC Q w v cs) → AvI Q w (Vls.of l) (some ⟨p, off, none⟩) l.length
  | [], off, h => by simp only [Vls.of]; unfold AvI; rfl
  | v :: r, off, h => by
    simp only [Vls.of]
    unfold AvI
    obtain ⟨cs, h1, h2⟩ := h 0 v rfl
    exact ⟨p, off, r.length, cs, rfl, rfl, hp, by simpa using h1, h2, AvI.mk hp r (off + 8) (fun i u hu => by
      obtain ⟨ds, g1, g2⟩ := h (i + 1) u (by simpa using hu)
      exact ⟨ds, by rw [show off + 8 + i * 8 = off + (i + 1) * 8 by omega]; exact g1, g2⟩)⟩
theorem AvF.mk {Q : Nat → Prop} {w : World} {p : Nat} (hp : ¬ Q p) : ∀ (l : List (ByteArray × Vl)) (off : Nat), (∀ i q, l[i]? = some q → ∃ cs, w.cell? ⟨p, off + i * 9, none⟩ = some (.string q.1) ∧ q.1.size ≤ maxLen ∧ Row8 w p (off + i * 9 + 1) cs ∧ AvC Q w q.2 cs) → AvF Q w (Fls.of l) (some ⟨p, off, none⟩) l.length
  | [], off, h => by simp only [Fls.of]; unfold AvF; rfl
  | v :: r, off, h => by
    simp only [Fls.of]
    unfold AvF
    obtain ⟨cs, h0, hz, h1, h2⟩ := h 0 v rfl
    exact ⟨p, off, r.length, cs, rfl, rfl, hp, by simpa using h0, hz, by simpa using h1, h2, AvF.mk hp r (off + 9) (fun i u hu => by
      obtain ⟨ds, g0, gz, g1, g2⟩ := h (i + 1) u (by simpa using hu)
      exact ⟨ds, by rw [show off + 9 + i * 9 = off + (i + 1) * 9 by omega]; exact g0, gz, by rw [show off + 9 + i * 9 + 1 = off + (i + 1) * 9 + 1 by omega]; exact g1, g2⟩)⟩
end Go.Proofs.Ythpcpminikmcbaa.og
namespace Go.Proofs.Ythpcpminikmcbaa.og
open Go.ChangeShapes Go.WideShapes Go.ChangeAt Go.RowKit
open vl hiding cB cFl cS cF cI cK cIt
set_option linter.unusedVariables false
set_option linter.unusedSimpArgs false
/-- two lists, element by element -/
def Pw {α : Type} (R : α → α → Prop) (l l' : List α) : Prop := l.length = l'.length ∧ ∀ (i : Nat) (x y : α), l[i]? = some x → l'[i]? = some y → R x y
theorem Pw.snoc {α : Type} {R : α → α → Prop} {l l' : List α} {k : Nat} {x y : α} (h : Pw R (l.take k) l') (hx : l[k]? = some x) (hr : R x y) : Pw R (l.take (k + 1)) (l' ++ [y]) := by
  have hk : k < l.length := (List.getElem?_eq_some_iff.1 hx).1
  have hl : l'.length = k := by have := h.1; simp at this; omega
  refine ⟨by simp; omega, fun i a b ha hb => ?_⟩
  by_cases hi : i < k
  · exact h.2 i a b (by rw [List.getElem?_take_of_lt hi]; rw [List.getElem?_take_of_lt (by omega)] at ha; exact ha) (by rw [List.getElem?_append_left (by omega)] at hb; exact hb)
  · have hi2 : i < k + 1 := by have := (List.getElem?_eq_some_iff.1 ha).1; simp at this; omega
    obtain rfl : i = k := by omega
    rw [List.getElem?_take_of_lt (by omega), hx] at ha
    rw [List.getElem?_append_right (by omega), hl] at hb
    simp at ha hb
    rw [← ha, ← hb]
    exact hr
/-- a function from values to values: what it makes of v -/
def FnAt (g : Nat) (R : Vl → Vl → Prop) (v : Vl) : Prop := ∀ (Q : Nat → Prop) (cs : List Value) (w : World), (∀ b, Q b → b < w.heap.size) → AvC Q w v cs → Calls Try.prog g #[.agg cs.toArray] w fun e w' => ∃ (v' : Vl) (ds : List Value), e = .returned (.agg ds.toArray) ∧ R v v' ∧ AvC Q w' v' ds ∧ Gr w w'
theorem gr_lt {w w' : World} (h : Gr w w') {b : Nat} (hb : b < w.heap.size) : b < w'.heap.size := Nat.lt_of_lt_of_le hb h.1.size
set_option maxHeartbeats 6000000 in
set_option maxRecDepth 6000 in
theorem eachV_ok (g : Nat) (en : ∀ args w, (callFunc g args).run Try.prog w = .ok (.enter g args) w) (R : Vl → Vl → Prop) (its : Vls) (ih : ∀ v ∈ its.list, FnAt g R v) (Q : Nat → Prop) (a : Addr) (n c : Nat) (w : World) (hQ : ∀ b, Q b → b < w.heap.size) (hI : AvI Q w its (some a) n) (hn : n ≤ 1256584717458) :
    Calls Try.prog 58 #[.slice (some a) n c, .func (.func g) #[] #[]] w fun e w' => ∃ (l : List Vl), e = .returned (.slice (some ⟨w.heap.size, 0, none⟩) n n) ∧ l.length = n ∧ Pw R its.list l ∧ RowI (fun b => Q b ∨ b = w.heap.size) w' w.heap.size l ∧ w.heap.size < w'.heap.size ∧ w'.there w.heap.size 0 (n * 8) ∧ Gr w w' := by
  have hnil : ∀ (w : World) (a : Option Addr) (n c n' c' : Nat), (binOp .eql 24 (.slice a n c) (.slice none n' c')).run Try.prog w = .ok (.bool a.isNone) w := fun w a n c n' c' => Lib.run_eql_slice_nil w _ _ a n c n' c' Try.underlying24
  have hlen := VlsAt.len its _ _ (AvI.read its _ _ hI)
  obtain ⟨Z, hZ, hmk⟩ := makeV n w hn
  have hL := hide hlen
  have hZ' := hide hZ
  clear hlen hZ
  go_enter Try.func58, Try.ntmps58
  go_wp2_with fail
  clear hmk
  go_loopw [15] (fun vi wr => ∃ (k : Nat) (l : List Vl), k ≤ n ∧ vi = .int .i64 k ∧ l.length = k ∧ vl.Hid (Pw R (its.list.take k) l) ∧ vl.Hid (RowI (fun b => Q b ∨ b = w.heap.size) wr w.heap.size l) ∧ vl.Hid (wr.there w.heap.size 0 (n * 8)) ∧ Gr w wr ∧ w.heap.size < wr.heap.size) (fun vi _ => n - (intOf vi).toNat)
  case atStart => exact ⟨0, [], Nat.zero_le _, rfl, rfl, hide ⟨by simp, fun i x y hx => by simp at hx⟩, hide (fun i v hv => by simp at hv), hide (there_new (unhide hZ')), (Gr.refl _).alloc _, by simp⟩
  case round =>
    obtain ⟨k, l, hk, rfl, hlk, hP, hO, hT, hB, hs⟩ := hrel
    by_cases hlt : k < n
    · obtain ⟨b, off, v, cs, hab, hg, -, hr, hv⟩ := AvI.get its _ n hI k hlt
      obtain rfl : a = ⟨b, off, none⟩ := Option.some.inj hab
      clear hab
      have hcop := hide (ih v (List.mem_of_getElem? hg))
      have hr' : wr.rangeAt b (off + k * 8) cs := Row8.below hr hB.1
      have h8 := hv.cells
      have h1 := (AvC.read v cs hv).one
      have hi8 : (Try.prog.info? 27).map (·.size) = some cs.length := by rw [h8]; exact infoV
      have hi8' : (Try.prog.info? 27).map (·.size) = some cs.toArray.size := by simp [h8, infoV]
      have hz8 : cs.toArray.size = 8 := by simp [h8]
      have ki : (k : Int) < (n : Int) := by omega
      have HH := hide (And.intro hi8 (And.intro hi8' (And.intro hz8 h8)))
      have HLK := hide hlk
      clear hr hi8 hi8' hz8 h8 hlk
      go_wp2_with (first
        | refine wpList_load_mid (by rfl) 27 _ (by rfl) b (off + k * 8) (by rfl) cs _ hr' Try.underlying27 (by rfl) (unhide HH).1 ?_
        | refine wpList_store_mid (by rfl) 27 _ _ (by rfl) wr.heap.size 0 cs.toArray (by rfl) (by rfl) (there_new (by rw [(unhide HH).2.2.1]; rfl)) (unhide HH).2.1 h1 ?_
        | refine wpList_load_mid (by rfl) 27 _ (by rfl) wr.heap.size 0 (by rfl) cs _ (World.rangeAt_setCells_same _ _ _ _ (there_new (by show _ = cs.length; rw [(unhide HH).2.2.2]; rfl))) Try.underlying27 (by rfl) (unhide HH).1 ?_)
      obtain ⟨W2, e2⟩ : ∃ W2, W2 = ((wr.alloc (.cells #[Value.int IntKind.i64 0, Value.bool false, Value.int IntKind.i64 0, Value.float FloatKind.f64 0, Value.string { data := #[] }, Value.string { data := #[] }, Value.slice none 0 0, Value.slice none 0 0] 27)).setCells wr.heap.size 0 cs) := ⟨_, rfl⟩
      have b2 : Gr wr W2 := by rw [e2]; exact ((Gr.refl _).alloc _).setCells (Nat.le_refl _) _ _
      rw [← e2]
      clear e2
      have g2 : Gr w W2 := hB.trans b2
      have hQ2 : ∀ b, (Q b ∨ b = w.heap.size) → b < W2.heap.size := fun b hb => hb.elim (fun h => gr_lt g2 (hQ b h)) (fun h => by rw [h]; exact gr_lt b2 hs)
      have hv2 : AvC (fun b => Q b ∨ b = w.heap.size) W2 v cs := AvC.agree (fun b hl hn e => e.elim hn (fun e => by omega)) (fun b j hl _ => g2.1.cell (p := ⟨b, j, none⟩) hl) v cs hv
      refine ((unhide hcop) _ cs W2 hQ2 hv2).mono ?_
      rintro e w3 ⟨v', ds, rfl, hR, hO3, b3⟩
      have d8 := hO3.cells
      have d1 := (AvC.read v' ds hO3).one
      have b23 : Gr wr w3 := b2.trans b3
      have hT3 : w3.there w.heap.size (k * 8) ds.toArray.size := there_sub (there_below (unhide hT) b23.1 hs) (Nat.zero_le _) (by simp [d8]; omega)
      have hi8 : (Try.prog.info? 27).map (·.size) = some ds.toArray.size := by simp [d8, infoV]
      have D8 := hide d8
      have HI := hide hi8
      have HT := hide hT3
      have HO3 := hide hO3
      clear hO3 hT3 hi8 d8 hcop HH hr' hv2
      go_wp2_with (first
        | refine wpList_store_mid (by rfl) 27 _ _ (by rfl) w.heap.size (k * 8) ds.toArray (by rfl) (by rfl) (unhide HT) (unhide HI) d1 ?_)
      have hrow : Row8 (w3.setCells w.heap.size (k * 8) ds) w.heap.size (k * 8) ds := World.rangeAt_setCells_same w3 _ _ ds (by have := unhide HT; simpa using this)
      have hav : ∀ u us, AvC (fun b => Q b ∨ b = w.heap.size) w3 u us → AvC (fun b => Q b ∨ b = w.heap.size) (w3.setCells w.heap.size (k * 8) ds) u us := fun u us h => AvC.agree (fun _ _ h => h) (fun b j _ hn => World.cell?_setCells_out _ _ _ _ _ (fun e _ => absurd (.inr (show b = w.heap.size from e)) hn)) u us h
      refine ⟨⟨k + 1, l ++ [v'], by omega, by go_num, by simp [unhide HLK], hide (Pw.snoc (unhide hP) hg hR), hide ?_, hide (World.there_setCells (there_below (unhide hT) b23.1 hs) _ _ _), (hB.trans b23).setCells (Nat.le_refl _) _ _, by rw [size_setCells]; exact gr_lt b23 hs⟩, by simp only [intOf]; omega⟩
      intro i u hu
      by_cases hi : i < k
      · rw [List.getElem?_append_left (by rw [unhide HLK]; exact hi)] at hu
        obtain ⟨us, g1, g2⟩ := unhide hO i u hu
        have u8 := g2.cells
        refine ⟨us, fun j x hx => ?_, hav u us (AvC.agree (fun _ _ h => h) (fun b j hl _ => b23.1.cell (p := ⟨b, j, none⟩) hl) u us g2)⟩
        have hj := (List.getElem?_eq_some_iff.1 hx).1
        rw [World.cell?_setCells_out _ _ _ _ _ (fun _ _ => .inl (by show i * 8 + j < k * 8; omega))]
        exact (b23.1.cell (p := ⟨w.heap.size, i * 8 + j, none⟩) hs).trans (g1 j x hx)
      · have hi2 := (List.getElem?_eq_some_iff.1 hu).1
        simp [unhide HLK] at hi2
        obtain rfl : i = k := by omega
        rw [List.getElem?_append_right (by rw [unhide HLK]; omega), unhide HLK] at hu
        simp at hu
        subst hu
        exact ⟨ds, hrow, hav _ ds (unhide HO3)⟩
    · obtain rfl : k = n := by omega
      go_wp2
      go_ret
      refine ⟨l, rfl, hlk, ?_, unhide hO, hs, unhide hT, hB⟩
      have := unhide hP
      rwa [List.take_of_length_le (Nat.le_of_eq (unhide hL))] at this
end Go.Proofs.Ythpcpminikmcbaa.og
namespace Go.Proofs.Ythpcpminikmcbaa.og
open Go.ChangeShapes Go.WideShapes Go.ChangeAt Go.RowKit
open vl hiding cB cFl cS cF cI cK cIt
set_option linter.unusedVariables false
set_option linter.unusedSimpArgs false
/-- a function from members to members: what it makes of p -/
def FnMAt (g : Nat) (R : ByteArray × Vl → ByteArray × Vl → Prop) (p : ByteArray × Vl) : Prop := ∀ (Q : Nat → Prop) (cs : List Value) (w : World), (∀ b, Q b → b < w.heap.size) → p.1.size ≤ maxLen → AvC Q w p.2 cs → Calls Try.prog g #[.agg (Value.string p.1 :: cs).toArray] w fun e w' => ∃ (nm' : ByteArray) (v' : Vl) (ds : List Value), e = .returned (.agg (Value.string nm' :: ds).toArray) ∧ nm'.size ≤ maxLen ∧ R p (nm', v') ∧ AvC Q w' v' ds ∧ Gr w w'
set_option maxHeartbeats 6000000 in
set_option maxRecDepth 6000 in
theorem eachM_ok' (g : Nat) (en : ∀ args w, (callFunc g args).run Try.prog w = .ok (.enter g args) w) (R : ByteArray × Vl → ByteArray × Vl → Prop) (its : Fls) (ih : ∀ v ∈ its.list, FnMAt g R v) (Q : Nat → Prop) (a : Addr) (n c : Nat) (w : World) (hQ : ∀ b, Q b → b < w.heap.size) (hI : AvF Q w its (some a) n) (hn : n ≤ 1099511627776) :
    Calls Try.prog 59 #[.slice (some a) n c, .func (.func g) #[] #[]] w fun e w' => ∃ (l : List (ByteArray × Vl)), e = .returned (.slice (some ⟨w.heap.size, 0, none⟩) n n) ∧ l.length = n ∧ Pw R its.list l ∧ RowF (fun b => Q b ∨ b = w.heap.size) w' w.heap.size l ∧ w.heap.size < w'.heap.size ∧ w'.there w.heap.size 0 (n * 9) ∧ Gr w w' := by
  have hnil : ∀ (w : World) (a : Option Addr) (n c n' c' : Nat), (binOp .eql 25 (.slice a n c) (.slice none n' c')).run Try.prog w = .ok (.bool a.isNone) w := fun w a n c n' c' => Lib.run_eql_slice_nil w _ _ a n c n' c' Try.underlying25
  have hlen := FlsAt.len its _ _ (AvF.read its _ _ hI)
  obtain ⟨Z, hZ, hmk⟩ := makeM n w hn
  have hL := hide hlen
  have hZ' := hide hZ
  clear hlen hZ
  go_enter Try.func59, Try.ntmps59
  go_wp2_with fail
  clear hmk
  go_loopw [15] (fun vi wr => ∃ (k : Nat) (l : List (ByteArray × Vl)), k ≤ n ∧ vi = .int .i64 k ∧ l.length = k ∧ vl.Hid (Pw R (its.list.take k) l) ∧ vl.Hid (RowF (fun b => Q b ∨ b = w.heap.size) wr w.heap.size l) ∧ vl.Hid (wr.there w.heap.size 0 (n * 9)) ∧ Gr w wr ∧ w.heap.size < wr.heap.size) (fun vi _ => n - (intOf vi).toNat)
  case atStart => exact ⟨0, [], Nat.zero_le _, rfl, rfl, hide ⟨by simp, fun i x y hx => by simp at hx⟩, hide (fun i v hv => by simp at hv), hide (there_new (unhide hZ')), (Gr.refl _).alloc _, by simp⟩
  case round =>
    obtain ⟨k, l, hk, rfl, hlk, hP, hO, hT, hB, hs⟩ := hrel
    by_cases hlt : k < n
    · obtain ⟨b, off, nm, v, cs, hab, hg, -, hn0, hnz, hr, hv⟩ := AvF.get its _ n hI k hlt
      obtain rfl : a = ⟨b, off, none⟩ := Option.some.inj hab
      clear hab
      have hcop := hide (ih (nm, v) (List.mem_of_getElem? hg))
      have hr' : wr.rangeAt b (off + k * 9) (Value.string nm :: cs) := Row8.below (row9 hr hn0) hB.1
      have h8 := hv.cells
      have h1 := one9 nm (AvC.read v cs hv)
      have hi8 : (Try.prog.info? 69).map (·.size) = some (Value.string nm :: cs).length := by rw [List.length_cons, h8]; exact infoM
      have hi8' : (Try.prog.info? 69).map (·.size) = some (Value.string nm :: cs).toArray.size := by simp [h8, infoM]
      have hz8 : (Value.string nm :: cs).toArray.size = 9 := by simp [h8]
      have ki : (k : Int) < (n : Int) := by omega
      have HH := hide (And.intro hi8 (And.intro hi8' (And.intro hz8 (show (Value.string nm :: cs).length = 9 by simp [h8]))))
      have HLK := hide hlk
      clear hr hi8 hi8' hz8 h8 hlk
      go_wp2_with (first
        | refine wpList_load_mid (by rfl) 69 _ (by rfl) b (off + k * 9) (by rfl) (Value.string nm :: cs) _ hr' Try.underlying69 (by rfl) (unhide HH).1 ?_
        | refine wpList_store_mid (by rfl) 69 _ _ (by rfl) wr.heap.size 0 (Value.string nm :: cs).toArray (by rfl) (by rfl) (there_new (by rw [(unhide HH).2.2.1]; rfl)) (unhide HH).2.1 h1 ?_
        | refine wpList_load_mid (by rfl) 69 _ (by rfl) wr.heap.size 0 (by rfl) (Value.string nm :: cs) _ (World.rangeAt_setCells_same _ _ _ _ (there_new (by show _ = (Value.string nm :: cs).length; rw [(unhide HH).2.2.2]; rfl))) Try.underlying69 (by rfl) (unhide HH).1 ?_)
      obtain ⟨W2, e2⟩ : ∃ W2, W2 = ((wr.alloc (.cells #[Value.string { data := #[] }, Value.int IntKind.i64 0, Value.bool false, Value.int IntKind.i64 0, Value.float FloatKind.f64 0, Value.string { data := #[] }, Value.string { data := #[] }, Value.slice none 0 0, Value.slice none 0 0] 69)).setCells wr.heap.size 0 (Value.string nm :: cs)) := ⟨_, rfl⟩
      have b2 : Gr wr W2 := by rw [e2]; exact ((Gr.refl _).alloc _).setCells (Nat.le_refl _) _ _
      rw [← e2]
      clear e2
      have g2 : Gr w W2 := hB.trans b2
      have hQ2 : ∀ b, (Q b ∨ b = w.heap.size) → b < W2.heap.size := fun b hb => hb.elim (fun h => gr_lt g2 (hQ b h)) (fun h => by rw [h]; exact gr_lt b2 hs)
      have hv2 : AvC (fun b => Q b ∨ b = w.heap.size) W2 v cs := AvC.agree (fun b hl hn e => e.elim hn (fun e => by omega)) (fun b j hl _ => g2.1.cell (p := ⟨b, j, none⟩) hl) v cs hv
      refine ((unhide hcop) _ cs W2 hQ2 hnz hv2).mono ?_
      rintro e w3 ⟨nm', v', ds, rfl, hnz', hR, hO3, b3⟩
      have d8 := hO3.cells
      have d1 := one9 nm' (AvC.read v' ds hO3)
      have b23 : Gr wr w3 := b2.trans b3
      have hT3 : w3.there w.heap.size (k * 9) (Value.string nm' :: ds).toArray.size := there_sub (there_below (unhide hT) b23.1 hs) (Nat.zero_le _) (by simp [d8]; omega)
      have hi8 : (Try.prog.info? 69).map (·.size) = some (Value.string nm' :: ds).toArray.size := by simp [d8, infoM]
      have D8 := hide d8
      have HI := hide hi8
      have HT := hide hT3
      have HO3 := hide hO3
      clear hO3 hT3 hi8 d8 hcop HH hr' hv2
      go_wp2_with (first
        | refine wpList_store_mid (by rfl) 69 _ _ (by rfl) w.heap.size (k * 9) (Value.string nm' :: ds).toArray (by rfl) (by rfl) (unhide HT) (unhide HI) d1 ?_)
      have hrow : (w3.setCells w.heap.size (k * 9) (Value.string nm' :: ds)).rangeAt w.heap.size (k * 9) (Value.string nm' :: ds) := World.rangeAt_setCells_same w3 _ _ _ (by have := unhide HT; simpa using this)
      have hav : ∀ u us, AvC (fun b => Q b ∨ b = w.heap.size) w3 u us → AvC (fun b => Q b ∨ b = w.heap.size) (w3.setCells w.heap.size (k * 9) (Value.string nm' :: ds)) u us := fun u us h => AvC.agree (fun _ _ h => h) (fun b j _ hn => World.cell?_setCells_out _ _ _ _ _ (fun e _ => absurd (.inr (show b = w.heap.size from e)) hn)) u us h
      refine ⟨⟨k + 1, l ++ [(nm', v')], by omega, by go_num, by simp [unhide HLK], hide (Pw.snoc (unhide hP) hg hR), hide ?_, hide (World.there_setCells (there_below (unhide hT) b23.1 hs) _ _ _), (hB.trans b23).setCells (Nat.le_refl _) _ _, by rw [size_setCells]; exact gr_lt b23 hs⟩, by simp only [intOf]; omega⟩
      intro i u hu
      by_cases hi : i < k
      · rw [List.getElem?_append_left (by rw [unhide HLK]; exact hi)] at hu
        obtain ⟨us, g0, gz, g1, g2⟩ := unhide hO i u hu
        have u8 := g2.cells
        refine ⟨us, ?_, gz, fun j x hx => ?_, hav u.2 us (AvC.agree (fun _ _ h => h) (fun b j hl _ => b23.1.cell (p := ⟨b, j, none⟩) hl) u.2 us g2)⟩
        · rw [World.cell?_setCells_out _ _ _ _ _ (fun _ _ => .inl (by show i * 9 < k * 9; omega))]
          exact (b23.1.cell (p := ⟨w.heap.size, i * 9, none⟩) hs).trans g0
        · have hj := (List.getElem?_eq_some_iff.1 hx).1
          rw [World.cell?_setCells_out _ _ _ _ _ (fun _ _ => .inl (by show i * 9 + 1 + j < k * 9; omega))]
          exact (b23.1.cell (p := ⟨w.heap.size, i * 9 + 1 + j, none⟩) hs).trans (g1 j x hx)
      · have hi2 := (List.getElem?_eq_some_iff.1 hu).1
        simp [unhide HLK] at hi2
        obtain rfl : i = k := by omega
        rw [List.getElem?_append_right (by rw [unhide HLK]; omega), unhide HLK] at hu
        simp at hu
        subst hu
        exact ⟨ds, hrow 0 _ rfl, hnz', fun j x hx => by have := hrow (j + 1) x (by simpa using hx); rwa [show i * 9 + (j + 1) = i * 9 + 1 + j by omega] at this, hav _ ds (unhide HO3)⟩
    · obtain rfl : k = n := by omega
      go_wp2
      go_ret
      refine ⟨l, rfl, hlk, ?_, unhide hO, hs, unhide hT, hB⟩
      have := unhide hP
      rwa [List.take_of_length_le (Nat.le_of_eq (unhide hL))] at this
end Go.Proofs.Ythpcpminikmcbaa.og
namespace Go.Proofs.Ythpcpminikmcbaa.og
open Go.ChangeShapes Go.WideShapes Go.ChangeAt Go.RowKit
open vl hiding cB cFl cS cF cI cK cIt
set_option linter.unusedVariables false
set_option linter.unusedSimpArgs false
set_option maxHeartbeats 6000000 in
set_option maxRecDepth 6000 in
theorem sortM_ok (R : Vl → Vl → Prop) (p : ByteArray × Vl) (hc : FnAt 53 R p.2) : FnMAt 86 (fun p q => q.1 = p.1 ∧ R p.2 q.2) p := by
  intro Q cs w hQ hnz hv
  obtain ⟨nm, v⟩ := p
  simp only at hc hnz hv ⊢
  have H := hide (hc (fun b => Q b ∨ b = w.heap.size + 1) cs)
  have hv' := hide hv
  have h8 := hv.cells
  have h1 := one9 nm (AvC.read v cs hv)
  have i9 : (Try.prog.info? 69).map (·.size) = some (Value.string nm :: cs).toArray.size := by simp [h8, infoM]
  have HH := hide (And.intro h8 i9)
  clear hc h8 i9 hv
  go_enter Try.func86, Try.ntmps86
  go_wp2_with (first
    | refine wpList_store_mid (by rfl) 69 _ _ (by rfl) w.heap.size 0 (Value.string nm :: cs).toArray (by rfl) (by rfl) (there_new (by simp [(unhide HH).1])) (unhide HH).2 h1 ?_)
  obtain ⟨W, eW⟩ : ∃ W, W = ((w.alloc (.cells (Value.string nm :: cs).toArray 69)).alloc (.cells #[.string { data := #[] }, .int .i64 0, .bool false, .int .i64 0, .float .f64 0, .string { data := #[] }, .string { data := #[] }, .slice none 0 0, .slice none 0 0] 69)) := ⟨_, rfl⟩
  have bW : Gr w W := by rw [eW]; exact ((Gr.refl _).alloc _).alloc _
  have hsz : W.heap.size = w.heap.size + 2 := by rw [eW]; simp
  have hcell : ∀ j u, (Value.string nm :: cs)[j]? = some u → W.cell? ⟨w.heap.size, j, none⟩ = some u := fun j u hu => by
    rw [eW, World.cell?_alloc_past _ _ _ (by simp), World.cell?_alloc_at _ _ _ _ rfl]; simpa using hu
  have x0 := hcell 0 _ rfl
  have hrow : W.rangeAt w.heap.size 1 cs := fun j u hu => by
    rw [Nat.add_comm]; exact hcell (j + 1) u (by simpa using hu)
  have hth : W.there (w.heap.size + 1) 0 9 := by
    rw [eW]
    have h := there_new (w := w.alloc (.cells (Value.string nm :: cs).toArray 69)) (Z := #[.string { data := #[] }, .int .i64 0, .bool false, .int .i64 0, .float .f64 0, .string { data := #[] }, .string { data := #[] }, .slice none 0 0, .slice none 0 0]) (t := 69) (n := 9) rfl
    simpa using h
  rw [← eW]
  clear eW hcell
  have hS0 : Below (w.heap.size + 1) W { W with drawn := W.drawn + 1 } := (Below.refl _ _).drew
  have gS0 : Gr W { W with drawn := W.drawn + 1 } := (Gr.refl _).drew
  have hi8 : (Try.prog.info? 27).map (·.size) = some cs.length := by rw [(unhide HH).1]; exact infoV
  refine wp_region_noPanic ?_
  refine wp_region_held (S := fun w' => Below (w.heap.size + 1) W w') mixed ?_
  refine rgn.take (i := 0) _ (.pointer (some ⟨w.heap.size, 0, none⟩)) rfl (by kernel_rfl) (by kernel_rfl) (by kernel_rfl) (fun _ _ _ h => h) (by rfl) hS0 (fun w' hw' => by go_simp) ?_
  simp only [List.getElem_toArray, List.getElem_cons_zero, List.getElem_cons_succ, Act.put, List.setIfInBounds_toArray, List.set_cons_zero, List.set_cons_succ]
  refine rgn.take (i := 1) _ (.string nm) rfl (by kernel_rfl) (by kernel_rfl) (by kernel_rfl) (fun _ _ _ h => h) (by rfl) hS0 (fun w' hw' => by
    have y0 : w'.cell? ⟨w.heap.size, 0, none⟩ = some (.string nm) := (hw'.cell (p := ⟨w.heap.size, 0, none⟩) (Nat.lt_succ_self _)).trans x0
    clear x0
    go_simp) ?_
  simp only [List.getElem_toArray, List.getElem_cons_zero, List.getElem_cons_succ, Act.put, List.setIfInBounds_toArray, List.set_cons_zero, List.set_cons_succ]
  refine rgn.take (i := 2) _ (.pointer (some ⟨w.heap.size, 1, none⟩)) rfl (by kernel_rfl) (by kernel_rfl) (by kernel_rfl) (fun _ _ _ h => h) (by rfl) hS0 (fun w' hw' => by go_simp) ?_
  simp only [List.getElem_toArray, List.getElem_cons_zero, List.getElem_cons_succ, Act.put, List.setIfInBounds_toArray, List.set_cons_zero, List.set_cons_succ]
  refine wpAnyH_take (i := 3) rfl (by kernel_rfl) (by kernel_rfl) (by kernel_rfl) (fun _ _ _ h => h) (yieldsIf_load_mid (by rfl) 27 _ (by rfl) w.heap.size 1 (by rfl) cs _ (fun w' hw' j u hu => (hw'.cell (p := ⟨w.heap.size, 1 + j, none⟩) (Nat.lt_succ_self _)).trans (hrow j u hu)) Try.underlying27 (by rfl) hi8) hS0 ?_
  simp only [List.getElem_toArray, List.getElem_cons_zero, List.getElem_cons_succ, Act.put, List.setIfInBounds_toArray, List.set_cons_zero, List.set_cons_succ]
  refine rgn.one (i := 4) _ rfl (by kernel_rfl) (by rfl) ?_
  simp only [List.getElem_toArray, List.getElem_cons_zero, List.getElem_cons_succ, Act.put, List.setIfInBounds_toArray, List.set_cons_zero, List.set_cons_succ]
  go_wp2_with fail
  refine ((unhide H) _ (fun b hb => hb.elim (fun h => gr_lt (bW.trans gS0) (hQ b h)) (fun h => by rw [h]; show w.heap.size + 1 < W.heap.size; omega)) (AvC.agree (fun b hl hn e => e.elim hn (fun e => by omega)) (fun b j hl _ => (bW.trans gS0).1.cell (p := ⟨b, j, none⟩) hl) v cs (unhide hv'))).mono ?_
  rintro e w3 ⟨v', ds, rfl, hR, hO3, b3⟩
  have g4 : Gr W w3 := gS0.trans b3
  have b4 : Below W.heap.size W w3 := g4.1
  have hS3 : Below (w.heap.size + 1) W w3 := b4.mono (by omega)
  have d8 := (AvC.read v' ds hO3).cells
  have d1 := one9 nm (AvC.read v' ds hO3)
  have hT3 : w3.there (w.heap.size + 1) 0 (Value.string nm :: ds).toArray.size := by
    have := there_below hth b4 (by omega)
    simpa [d8] using this
  have i9 : (Try.prog.info? 69).map (·.size) = some (Value.string nm :: ds).toArray.size := by simp [d8, infoM]
  refine ⟨hS3, ?_⟩
  refine rgn.take (i := 5) _ (.agg (Value.string nm :: ds).toArray) rfl (by kernel_rfl) (by kernel_rfl) (by kernel_rfl) (fun _ _ _ h => h) (by rfl) hS3 (fun w' hw' => by
    have hO4 := hO3
    clear hO3 d8 d1 hT3 i9
    clear hR
    obtain ⟨kd, bb, ni, f, tx, ty, its, fls⟩ := v'
    unfold AvC at hO4
    obtain ⟨ai, nI, ci, af, nf, cf, rfl, -⟩ := hO4
    go_simp) ?_
  simp only [List.getElem_toArray, List.getElem_cons_zero, List.getElem_cons_succ, Act.put, List.setIfInBounds_toArray, List.set_cons_zero, List.set_cons_succ]
  refine rgn.one (i := 6) _ rfl (by kernel_rfl) (by rfl) ?_
  simp only [List.getElem_toArray, List.getElem_cons_zero, List.getElem_cons_succ, Act.put, List.setIfInBounds_toArray, List.set_cons_zero, List.set_cons_succ]
  refine wp_store_mid 69 _ _ (by rfl) (w.heap.size + 1) 0 (Value.string nm :: ds).toArray (by rfl) (by rfl) hT3 i9 d1 ?_
  refine ⟨below_setCells _ _ _ _ hS3 (Nat.le_refl _), ?_⟩
  refine wpAnyH_done (by kernel_rfl) ?_ _
  simp only [List.getElem_toArray, List.getElem_cons_zero, List.getElem_cons_succ, Act.put, List.setIfInBounds_toArray, List.set_cons_zero, List.set_cons_succ]
  refine NoPanic.normal ?_
  obtain ⟨W4, e4⟩ : ∃ W4, W4 = w3.setCells (w.heap.size + 1) 0 (Value.string nm :: ds) := ⟨_, rfl⟩
  rw [← e4]
  go_wp2_with fail
  have g5 : Gr w W4 := by rw [e4]; exact (bW.trans g4).setCells (Nat.le_succ _) _ _
  have hr4 : W4.rangeAt (w.heap.size + 1) 0 (Value.string nm :: ds) := by rw [e4]; exact World.rangeAt_setCells_same _ _ _ _ (by simpa using hT3)
  have hO4 : AvC Q W4 v' ds := by
    rw [e4]
    exact AvC.agree (fun _ _ h e => h (.inl e)) (fun b j _ hn => World.cell?_setCells_out _ _ _ _ _ (fun e _ => absurd (.inr (show b = w.heap.size + 1 from e)) hn)) v' ds hO3
  refine bodyPost_ret (rgn.result_row rfl _ _ (w.heap.size + 1) 0 (Value.string nm :: ds) _ rfl hr4 Try.underlying69 rfl (by simpa using i9)) rfl ?_
  exact ⟨nm, v', ds, rfl, hnz, ⟨rfl, hR⟩, hO4, g5⟩
end Go.Proofs.Ythpcpminikmcbaa.og
