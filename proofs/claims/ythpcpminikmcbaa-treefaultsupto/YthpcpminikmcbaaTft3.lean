import Derived.Test.YthpcpminikmcbaaTft2
import Derived.SizedLaws
import Derived.Deep.Strs
namespace Go.Proofs.Ythpcpminikmcbaa.stp
open Go.ChangeShapes Go.WideShapes Go.ChangeAt Go.RowKit
set_option linter.unusedVariables false
theorem compare_any (aA aB : Option Addr) (nA cA nB cB : Nat) (A B : List St) (w : World) (hA : Pth w aA nA A) (hB : Pth w aB nB B) (bA : nA ≤ 4611686018427387903) (bB : nB ≤ 4611686018427387903) :
    Calls Try.prog 48 #[.slice aA nA cA, .slice aB nB cB] w fun e w' => e = .returned (.int .i64 (lexS A B)) ∧ Below w.heap.size w w' := by
  go_enter Try.func48, Try.ntmps48
  go_wp2_with fail
  refine (cmpFunc_any aA aB nA cA nB cB A B w hA hB bA bB).mono ?_
  rintro e w2 ⟨rfl, hb2⟩
  go_wp2
  go_ret
  exact ⟨rfl, hb2⟩
theorem Pth.take {w : World} {a : Option Addr} {n m : Nat} {ss : List St} (h : Pth w a n ss) (hm : m ≤ n) : Pth w a m (ss.take m) := by
  refine ⟨by simp [h.len]; omega, ?_⟩
  rcases h.at_ with h0 | ⟨b, off, ha, hlt, hc⟩
  · exact .inl (by omega)
  · refine .inr ⟨b, off, ha, hlt, fun i hi => ?_⟩
    obtain ⟨s, hs, k⟩ := hc i (by omega)
    exact ⟨s, by rw [List.getElem?_take_of_lt hi]; exact hs, k⟩
/-- does A lie at B or beneath it? -/
def undS (A B : List St) : Bool := decide (B.length ≤ A.length) && lexS (A.take B.length) B == 0
theorem lex_self : ∀ A : List St, lexS A A = 0
  | [] => rfl
  | a :: l => by
    have h : cS a a = 0 := by
      have := eqS_iff a.nm a.nm a.ix a.ix a.it a.it
      have e : eqS a.nm a.ix a.it a.nm a.ix a.it = true := by simp [eqS]
      rw [e] at this
      simpa using this.symm
    rw [lexS, if_pos h]
    exact lex_self l
theorem und_self (A : List St) : undS A A = true := by
  unfold undS
  rw [List.take_length, lex_self]
  simp
theorem pth_one (w : World) (b : Nat) (nm : ByteArray) (ix : Int) (it : Bool) (hb : b < w.heap.size) (h : St3 w b 0 nm ix it) : Pth w (some ⟨b, 0, none⟩) 1 [⟨nm, ix, it⟩] :=
  ⟨rfl, .inr ⟨b, 0, rfl, hb, fun i hi => by
    obtain rfl : i = 0 := by omega
    exact ⟨_, rfl, h⟩⟩⟩
end Go.Proofs.Ythpcpminikmcbaa.stp
namespace Go.Proofs.Ythpcpminikmcbaa.og
open Go.ChangeShapes Go.WideShapes Go.ChangeAt Go.RowKit
open vl hiding cB cFl cS cF cI cK cIt
open stp (c3 c3_lt c3_gt c3_eq cB cB_tri)
set_option linter.unusedVariables false
set_option linter.unusedSimpArgs false
/-- all that lay stays, draws are only added -/
def Gr (w w' : World) : Prop := Below w.heap.size w w' ∧ w.drawn ≤ w'.drawn
theorem Gr.refl (w : World) : Gr w w := ⟨Below.refl _ _, Nat.le_refl _⟩
theorem Gr.trans {a b c : World} (h : Gr a b) (k : Gr b c) : Gr a c := ⟨h.1.trans (k.1.mono h.1.size), Nat.le_trans h.2 k.2⟩
theorem Gr.alloc {a w : World} (h : Gr a w) (o : Obj) : Gr a (w.alloc o) := ⟨h.1.alloc h.1.size o, h.2⟩
theorem Gr.drew {a w : World} (h : Gr a w) : Gr a { w with drawn := w.drawn + 1 } := ⟨h.1.drew, Nat.le_succ_of_le h.2⟩
theorem drawn_setCells (b : Nat) : ∀ (vs : List Value) (o : Nat) (w : World), (w.setCells b o vs).drawn = w.drawn
  | [], o, w => rfl
  | v :: r, o, w => by rw [World.setCells, drawn_setCells b r (o + 1)]; rfl
theorem Gr.setCells {a w : World} (h : Gr a w) {b : Nat} (hb : a.heap.size ≤ b) (o : Nat) (vs : List Value) : Gr a (w.setCells b o vs) := ⟨below_setCells _ _ _ _ h.1 hb, by rw [drawn_setCells]; exact h.2⟩
/-- the kind that counts -/
def kdOf (k : Int) : Int := if k < 0 ∨ 7 < k then 0 else k
theorem kdOf_rng (k : Int) : kdOf k = 0 ∨ kdOf k = 1 ∨ kdOf k = 2 ∨ kdOf k = 3 ∨ kdOf k = 4 ∨ kdOf k = 5 ∨ kdOf k = 6 ∨ kdOf k = 7 := by
  unfold kdOf
  split <;> omega
def cBo (a b : Bool) : Int := if a = b then 0 else if b = true then -1 else 1
def sameF (a b : Nat) : Bool := (a == b) || (nanF a && nanF b)
def cmpF (a b : Nat) : Int := if nanF a = true then (if nanF b = true then 0 else -1) else if nanF b = true then 1 else if (FloatKind.f64.format.order a b == some Ordering.lt) = true then -1 else if (FloatKind.f64.format.order a b == some Ordering.gt) = true then 1 else 0
def sgn (a : Nat) : Bool := decide (9223372036854775808 ≤ a)
def cFl (a b : Nat) : Int := if sameF a b = true then 0 else if cmpF a b = 0 then cBo (sgn b) (sgn a) else cmpF a b
/-- element by element; the shorter one first -/
def lexG {α : Type} (f : α → α → Int) : List α → List α → Int
  | [], [] => 0
  | [], _ :: _ => -1
  | _ :: _, [] => 1
  | a :: l, b :: r => if f a b = 0 then lexG f l r else f a b
theorem lexG_end1 {α : Type} {f : α → α → Int} {A B : List α} {k : Nat} (hA : A.length ≤ k) (hB : k < B.length) : lexG f (A.drop k) (B.drop k) = -1 := by
  rw [List.drop_eq_nil_of_le hA, List.drop_eq_getElem_cons hB]
  rfl
theorem lexG_end2 {α : Type} {f : α → α → Int} {A B : List α} {k : Nat} (hA : k < A.length) (hB : B.length ≤ k) : lexG f (A.drop k) (B.drop k) = 1 := by
  rw [List.drop_eq_nil_of_le hB, List.drop_eq_getElem_cons hA]
  rfl
theorem lexG_end0 {α : Type} {f : α → α → Int} {A B : List α} {k : Nat} (hA : A.length ≤ k) (hB : B.length ≤ k) : lexG f (A.drop k) (B.drop k) = 0 := by
  rw [List.drop_eq_nil_of_le hB, List.drop_eq_nil_of_le hA]
  rfl
theorem lexG_step {α : Type} {f : α → α → Int} {A B : List α} {k : Nat} {a b : α} (hA : A[k]? = some a) (hB : B[k]? = some b) : lexG f (A.drop k) (B.drop k) = if f a b = 0 then lexG f (A.drop (k + 1)) (B.drop (k + 1)) else f a b := by
  obtain ⟨h1, rfl⟩ := List.getElem?_eq_some_iff.1 hA
  obtain ⟨h2, rfl⟩ := List.getElem?_eq_some_iff.1 hB
  rw [List.drop_eq_getElem_cons h1, List.drop_eq_getElem_cons h2]
  rfl
mutual
/-- the order of values -/
def ordV : Vl → Vl → Int
  | .mk kd b n f tx ty its fls, .mk kd' b' n' f' tx' ty' its' fls' =>
    if c3 (kdOf kd) (kdOf kd') = 0 then
      (if kdOf kd = 1 then cBo b b' else if kdOf kd = 2 then c3 n n' else if kdOf kd = 3 then cFl f f' else if kdOf kd = 4 then cB tx tx' else if kdOf kd = 5 then ordI its its' else if kdOf kd = 6 then ordF fls fls' else if kdOf kd = 7 then (if cB ty ty' = 0 then cB tx tx' else cB ty ty') else 0)
    else c3 (kdOf kd) (kdOf kd')
def ordI : Vls → Vls → Int
  | .nil, .nil => 0
  | .nil, .cons _ _ => -1
  | .cons _ _, .nil => 1
  | .cons v r, .cons u s => if ordV v u = 0 then ordI r s else ordV v u
def ordF : Fls → Fls → Int
  | .nil, .nil => 0
  | .nil, .cons _ _ _ => -1
  | .cons _ _ _, .nil => 1
  | .cons nm v r, .cons nm' u s => if (if cB nm nm' = 0 then ordV v u else cB nm nm') = 0 then ordF r s else (if cB nm nm' = 0 then ordV v u else cB nm nm')
end
/-- the order of members -/
def ordM (p q : ByteArray × Vl) : Int := if cB p.1 q.1 = 0 then ordV p.2 q.2 else cB p.1 q.1
theorem ordI_lex : ∀ a b : Vls, ordI a b = lexG ordV a.list b.list
  | .nil, .nil => by simp [ordI, Vls.list, lexG]
  | .nil, .cons _ _ => by simp [ordI, Vls.list, lexG]
  | .cons _ _, .nil => by simp [ordI, Vls.list, lexG]
  | .cons v r, .cons u s => by rw [ordI, ordI_lex r s]; rfl
theorem ordF_lex : ∀ a b : Fls, ordF a b = lexG ordM a.list b.list
  | .nil, .nil => by simp [ordF, Fls.list, lexG]
  | .nil, .cons _ _ _ => by simp [ordF, Fls.list, lexG]
  | .cons _ _ _, .nil => by simp [ordF, Fls.list, lexG]
  | .cons nm v r, .cons nm' u s => by rw [ordF, ordF_lex r s]; rfl
theorem sameF_self (f : Nat) : sameF f f = true := by simp [sameF]
theorem cB_self (a : ByteArray) : cB a a = 0 := by
  rcases cB_tri a a with ⟨_, _, h⟩ | ⟨h, _⟩ | ⟨_, _, h⟩
  · exact absurd rfl h
  · exact h
  · exact absurd rfl h
theorem lexG_self {α : Type} {f : α → α → Int} : ∀ l : List α, (∀ x ∈ l, f x x = 0) → lexG f l l = 0
  | [], _ => rfl
  | a :: l, h => by
    rw [lexG, if_pos (h a (List.mem_cons_self ..))]
    exact lexG_self l (fun x hx => h x (List.mem_cons_of_mem _ hx))
/-- a value is level with itself -/
theorem ordV_self : ∀ v : Vl, ordV v v = 0 := by
  refine Vl.all ?_
  intro kd b n f tx ty its fls hI hF
  rw [ordV, if_pos (c3_eq rfl), ordI_lex, ordF_lex, lexG_self its.list hI, lexG_self fls.list (fun q hq => by rw [ordM, cB_self, if_pos rfl]; exact hF q hq), cB_self, cB_self, c3_eq rfl]
  simp [cBo, cFl, sameF_self]
end Go.Proofs.Ythpcpminikmcbaa.og
namespace Go.Proofs.Ythpcpminikmcbaa.og
open Go.ChangeShapes Go.WideShapes Go.ChangeAt Go.RowKit
open vl hiding cB cFl cS cF cI cK cIt
open stp (c3 c3_lt c3_gt c3_eq cB cB_tri)
set_option linter.unusedVariables false
set_option linter.unusedSimpArgs false
theorem str_cmpE (a b : ByteArray) (w : World) : Calls Try.prog 66 #[.string a, .string b] w fun e w' => e = .returned (.int .i64 (cB a b)) ∧ w = w' := by
  have hr := fun w => stp.run_cmp a b w
  go_enter Try.func66, Try.ntmps66
  go_wp2
  go_ret
  exact ⟨rfl, rfl⟩
theorem i64_cmp (x t : Int) (w : World) : Calls Try.prog 64 #[.int .i64 x, .int .i64 t] w fun e w' => e = .returned (.int .i64 (c3 x t)) ∧ w = w' := by
  rcases Int.lt_trichotomy x t with h | h | h
  · go_enter Try.func64, Try.ntmps64
    go_wp2
    go_ret
    exact ⟨by rw [c3_lt h]; rfl, rfl⟩
  · go_enter Try.func64, Try.ntmps64
    go_wp2
    go_ret
    exact ⟨by rw [c3_eq (by omega)]; rfl, rfl⟩
  · go_enter Try.func64, Try.ntmps64
    go_wp2
    go_ret
    exact ⟨by rw [c3_gt h]; rfl, rfl⟩
theorem kind_cmp (x t : Int) (w : World) : Calls Try.prog 62 #[.int .i64 x, .int .i64 t] w fun e w' => e = .returned (.int .i64 (c3 x t)) ∧ w = w' := by
  rcases Int.lt_trichotomy x t with h | h | h
  · go_enter Try.func62, Try.ntmps62
    go_wp2
    go_ret
    exact ⟨by rw [c3_lt h]; rfl, rfl⟩
  · go_enter Try.func62, Try.ntmps62
    go_wp2
    go_ret
    exact ⟨by rw [c3_eq (by omega)]; rfl, rfl⟩
  · go_enter Try.func62, Try.ntmps62
    go_wp2
    go_ret
    exact ⟨by rw [c3_gt h]; rfl, rfl⟩
theorem bools_ok (a b : Bool) (w : World) : Calls Try.prog 63 #[.bool a, .bool b] w fun e w' => e = .returned (.int .i64 (cBo a b)) ∧ w = w' := by
  cases a <;> cases b
  all_goals
    go_enter Try.func63, Try.ntmps63
    go_wp2
    go_ret
    exact ⟨rfl, rfl⟩
theorem cmpOr_ok (x y : Int) (b : Nat) (w : World) (h0 : w.cell? ⟨b, 0, none⟩ = some (.int .i64 x)) (h1 : w.cell? ⟨b, 1, none⟩ = some (.int .i64 y)) : Calls Try.prog 70 #[.slice (some ⟨b, 0, none⟩) 2 2] w fun e w' => e = .returned (.int .i64 (if x = 0 then y else x)) ∧ w = w' := by
  by_cases hx : x = 0
  · subst hx
    by_cases hy : y = 0
    · subst hy
      go_enter Try.func70, Try.ntmps70
      go_wp2_with fail
      go_loopw [8] (fun v wr => ∃ k : Nat, k ≤ 2 ∧ v = .int .i64 k ∧ w = wr) (fun v _ => 2 - (intOf v).toNat)
      case atStart => exact ⟨0, by omega, rfl, rfl⟩
      case round =>
        obtain ⟨k, hk, rfl, rfl⟩ := hrel
        rcases (by omega : k = 0 ∨ k = 1 ∨ k = 2) with rfl | rfl | rfl
        · go_wp2
          go_roundw
          case rel => exact ⟨1, by omega, by go_num, (by first | rfl | trivial)⟩
          case measure => simp [intOf]
        · go_wp2
          go_roundw
          case rel => exact ⟨2, by omega, by go_num, (by first | rfl | trivial)⟩
          case measure => simp [intOf]
        · go_wp2
          go_ret
          exact ⟨rfl, rfl⟩
    · have hy2 : (y != 0) = true := by simpa using hy
      go_enter Try.func70, Try.ntmps70
      go_wp2_with fail
      go_loopw [8] (fun v wr => ∃ k : Nat, k ≤ 1 ∧ v = .int .i64 k ∧ w = wr) (fun v _ => 2 - (intOf v).toNat)
      case atStart => exact ⟨0, by omega, rfl, rfl⟩
      case round =>
        obtain ⟨k, hk, rfl, rfl⟩ := hrel
        rcases (by omega : k = 0 ∨ k = 1) with rfl | rfl
        · go_wp2
          go_roundw
          case rel => exact ⟨1, by omega, by go_num, (by first | rfl | trivial)⟩
          case measure => simp [intOf]
        · go_wp2
          go_ret
          exact ⟨rfl, rfl⟩
  · have hx2 : (x != 0) = true := by simpa using hx
    have hi := hide (show (if x = 0 then y else x) = x from if_neg hx)
    generalize (if x = 0 then y else x) = r at *
    go_enter Try.func70, Try.ntmps70
    go_wp2_with fail
    go_loopw [8] (fun v wr => v = .int .i64 0 ∧ w = wr) (fun v _ => 2 - (intOf v).toNat)
    case atStart => exact ⟨rfl, rfl⟩
    case round =>
      obtain ⟨rfl, rfl⟩ := hrel
      go_wp2
      go_ret
      exact ⟨by rw [unhide hi]; rfl, rfl⟩
def kdV : Vl → Int
  | .mk kd _ _ _ _ _ _ _ => kdOf kd
theorem kindOf_ok (v : Vl) (cs : List Value) (w w0 : World) (hv : VlC w0 v cs) : Calls Try.prog 61 #[.agg cs.toArray] w fun e w' => e = .returned (.int .i64 (kdV v)) ∧ Gr w w' := by
  obtain ⟨kd, b, n, f, tx, ty, its, fls⟩ := v
  unfold VlC at hv
  obtain ⟨ai, ni, ci, af, nf, cf, rfl, -⟩ := hv
  unfold kdV
  by_cases h1 : kd < 0
  · have hr := hide (show kdOf kd = 0 by unfold kdOf; rw [if_pos (.inl h1)])
    go_enter Try.func61, Try.ntmps61
    go_wp2
    go_ret
    exact ⟨by rw [unhide hr]; rfl, (Gr.refl _).alloc _⟩
  · by_cases h2 : 7 < kd
    · have hr := hide (show kdOf kd = 0 by unfold kdOf; rw [if_pos (.inr h2)])
      go_enter Try.func61, Try.ntmps61
      go_wp2
      go_ret
      exact ⟨by rw [unhide hr]; rfl, (Gr.refl _).alloc _⟩
    · have hr := hide (show kdOf kd = kd by unfold kdOf; rw [if_neg (by omega)])
      go_enter Try.func61, Try.ntmps61
      go_wp2
      go_ret
      exact ⟨by rw [unhide hr]; rfl, (Gr.refl _).alloc _⟩
end Go.Proofs.Ythpcpminikmcbaa.og
namespace Go.Proofs.Ythpcpminikmcbaa.og
open Go.ChangeShapes Go.WideShapes Go.ChangeAt Go.RowKit
open vl hiding cB cFl cS cF cI cK cIt
open stp (c3 c3_lt c3_gt c3_eq cB cB_tri)
set_option linter.unusedVariables false
set_option linter.unusedSimpArgs false
theorem run_tobits (x : Nat) (w : World) : (callFunc 113 #[.float .f64 x]).run Try.prog w = .ok (.value (.int .u64 x)) w := by
  rw [run_callFunc_extern (e := Extern.MathFloatBits.float64bits) Try.func113 (by kernel_rfl) (by kernel_rfl) (by kernel_rfl) (by kernel_rfl)]
  rfl
theorem isNaN_any (x : Nat) (w : World) (h : x < 18446744073709551616) : Calls Try.prog 81 #[.float .f64 x] w fun e w' => e = .returned (.bool (nanF x)) ∧ w = w' := by
  have ho := (ordSelf x h).1
  generalize nanF x = N at *
  go_enter Try.func81, Try.ntmps81
  go_wp2
  go_ret
  exact ⟨by first | rfl | (rw [← ho]; rfl), rfl⟩
theorem cnan_any (x : Nat) (w : World) (h : x < 18446744073709551616) : Calls Try.prog 114 #[.float .f64 x] w fun e w' => e = .returned (.bool (nanF x)) ∧ w = w' := by
  have ho := (ordSelf x h).1
  generalize nanF x = N at *
  go_enter Try.func114, Try.ntmps114
  go_wp2
  go_ret
  exact ⟨by first | rfl | (rw [← ho]; rfl), rfl⟩
theorem sameF_ok (a b : Nat) (w : World) (ha : a < 18446744073709551616) (hb : b < 18446744073709551616) : Calls Try.prog 91 #[.float .f64 a, .float .f64 b] w fun e w' => e = .returned (.bool (sameF a b)) ∧ w = w' := by
  have NA := hide (fun W => isNaN_any a W ha)
  have NB := hide (fun W => isNaN_any b W hb)
  have T1 := run_tobits a w
  have T2 := run_tobits b w
  have HS := hide (show sameF a b = ((a == b) || (nanF a && nanF b)) from rfl)
  have HE := hide (show (a == b) = true → nanF a = nanF b from fun h => by rw [eq_of_beq h])
  generalize nanF a = A at *
  generalize nanF b = B at *
  cases A
  · cases B
    · have hi : (((a : Nat) : Int) == ((b : Nat) : Int)) = (a == b) := by
        by_cases h : a = b
        · subst h; simp
        · have h2 : ((a : Int) == (b : Int)) = false := by simp; omega
          rw [h2]; simp [h]
      cases hab : (a == b)
      all_goals
        rw [hab] at hi HS HE
        clear hab
        go_enter Try.func91, Try.ntmps91
        go_wp2_with fail
        refine (unhide NA _).mono ?_
        rintro e w1 ⟨rfl, rfl⟩
        go_wp2_with fail
        refine (unhide NB _).mono ?_
        rintro e w2 ⟨rfl, rfl⟩
        go_wp2
        go_ret
        exact ⟨by rw [unhide HS]; rfl, rfl⟩
    · have hab : (a == b) = false := by
        cases h : (a == b)
        · rfl
        · have := unhide HE h; cases this
      rw [hab] at HS
      clear hab HE
      go_enter Try.func91, Try.ntmps91
      go_wp2_with fail
      refine (unhide NA _).mono ?_
      rintro e w1 ⟨rfl, rfl⟩
      go_wp2_with fail
      refine (unhide NB _).mono ?_
      rintro e w2 ⟨rfl, rfl⟩
      go_wp2_with fail
      refine (unhide NA _).mono ?_
      rintro e w3 ⟨rfl, rfl⟩
      go_wp2
      go_ret
      exact ⟨by rw [unhide HS]; rfl, rfl⟩
  · cases B
    · have hab : (a == b) = false := by
        cases h : (a == b)
        · rfl
        · have := unhide HE h; cases this
      rw [hab] at HS
      clear hab HE
      go_enter Try.func91, Try.ntmps91
      go_wp2_with fail
      refine (unhide NA _).mono ?_
      rintro e w1 ⟨rfl, rfl⟩
      go_wp2_with fail
      refine (unhide NA _).mono ?_
      rintro e w2 ⟨rfl, rfl⟩
      go_wp2_with fail
      refine (unhide NB _).mono ?_
      rintro e w3 ⟨rfl, rfl⟩
      go_wp2
      go_ret
      exact ⟨by rw [unhide HS]; rfl, rfl⟩
    · have HT := hide (show sameF a b = true from by rw [unhide HS]; simp)
      clear HE HS
      go_enter Try.func91, Try.ntmps91
      go_wp2_with fail
      refine (unhide NA _).mono ?_
      rintro e w1 ⟨rfl, rfl⟩
      go_wp2_with fail
      refine (unhide NA _).mono ?_
      rintro e w2 ⟨rfl, rfl⟩
      go_wp2_with fail
      refine (unhide NB _).mono ?_
      rintro e w3 ⟨rfl, rfl⟩
      go_wp2
      go_ret
      exact ⟨by rw [unhide HT]; rfl, rfl⟩
theorem cmpF_ok (a b : Nat) (w : World) (ha : a < 18446744073709551616) (hb : b < 18446744073709551616) : Calls Try.prog 92 #[.float .f64 a, .float .f64 b] w fun e w' => e = .returned (.int .i64 (cmpF a b)) ∧ w = w' := by
  have NA := hide (fun W => cnan_any a W ha)
  have NB := hide (fun W => cnan_any b W hb)
  have HC := hide (show cmpF a b = (if nanF a = true then (if nanF b = true then 0 else -1) else if nanF b = true then 1 else if (FloatKind.f64.format.order a b == some Ordering.lt) = true then -1 else if (FloatKind.f64.format.order a b == some Ordering.gt) = true then 1 else 0) from rfl)
  generalize cmpF a b = C at *
  generalize nanF a = A at *
  generalize nanF b = B at *
  clear ha hb
  cases A
  · cases B
    · cases hl : (FloatKind.f64.format.order a b == some Ordering.lt)
      · cases hg : (FloatKind.f64.format.order a b == some Ordering.gt)
        · have HC := hide ((unhide HC).trans (show _ = (0 : Int) by rw [hl, hg]; rfl))
          go_enter Try.func92, Try.ntmps92
          go_wp2_with fail
          refine (unhide NA _).mono ?_
          rintro e w1 ⟨rfl, rfl⟩
          go_wp2_with fail
          refine (unhide NB _).mono ?_
          rintro e w2 ⟨rfl, rfl⟩
          go_wp2
          go_ret
          exact ⟨by rw [unhide HC]; rfl, rfl⟩
        · have HC := hide ((unhide HC).trans (show _ = (1 : Int) by rw [hl, hg]; rfl))
          go_enter Try.func92, Try.ntmps92
          go_wp2_with fail
          refine (unhide NA _).mono ?_
          rintro e w1 ⟨rfl, rfl⟩
          go_wp2_with fail
          refine (unhide NB _).mono ?_
          rintro e w2 ⟨rfl, rfl⟩
          go_wp2
          go_ret
          exact ⟨by rw [unhide HC]; rfl, rfl⟩
      · have HC := hide ((unhide HC).trans (show _ = (-1 : Int) by rw [hl]; rfl))
        go_enter Try.func92, Try.ntmps92
        go_wp2_with fail
        refine (unhide NA _).mono ?_
        rintro e w1 ⟨rfl, rfl⟩
        go_wp2_with fail
        refine (unhide NB _).mono ?_
        rintro e w2 ⟨rfl, rfl⟩
        go_wp2
        go_ret
        exact ⟨by rw [unhide HC]; rfl, rfl⟩
    · have HC := hide ((unhide HC).trans (show _ = (1 : Int) from rfl))
      go_enter Try.func92, Try.ntmps92
      go_wp2_with fail
      refine (unhide NA _).mono ?_
      rintro e w1 ⟨rfl, rfl⟩
      go_wp2_with fail
      refine (unhide NB _).mono ?_
      rintro e w2 ⟨rfl, rfl⟩
      go_wp2
      go_ret
      exact ⟨by rw [unhide HC]; rfl, rfl⟩
  · cases B
    · have HC := hide ((unhide HC).trans (show _ = (-1 : Int) from rfl))
      go_enter Try.func92, Try.ntmps92
      go_wp2_with fail
      refine (unhide NA _).mono ?_
      rintro e w1 ⟨rfl, rfl⟩
      go_wp2_with fail
      refine (unhide NB _).mono ?_
      rintro e w2 ⟨rfl, rfl⟩
      go_wp2
      go_ret
      exact ⟨by rw [unhide HC]; rfl, rfl⟩
    · have HC := hide ((unhide HC).trans (show _ = (0 : Int) from rfl))
      go_enter Try.func92, Try.ntmps92
      go_wp2_with fail
      refine (unhide NA _).mono ?_
      rintro e w1 ⟨rfl, rfl⟩
      go_wp2_with fail
      refine (unhide NB _).mono ?_
      rintro e w2 ⟨rfl, rfl⟩
      go_wp2
      go_ret
      exact ⟨by rw [unhide HC]; rfl, rfl⟩
theorem i64_of (x : Nat) (h : x < 18446744073709551616) : decide (wrap64 (x : Int) < 0) = sgn x := by
  unfold sgn
  by_cases h1 : 9223372036854775808 ≤ x
  · rw [decide_eq_true h1]
    have : wrap64 (x : Int) = x - 18446744073709551616 := by unfold wrap64; omega
    rw [this]
    simp
    omega
  · rw [decide_eq_false h1]
    have : wrap64 (x : Int) = x := by unfold wrap64; omega
    rw [this]
    simp
theorem sgn_ok (x : Nat) (w : World) (h : x < 18446744073709551616) : Calls Try.prog 93 #[.float .f64 x] w fun e w' => e = .returned (.bool (sgn x)) ∧ w = w' := by
  have T1 := run_tobits x w
  have hs := i64_of x h
  generalize sgn x = S at *
  go_enter Try.func93, Try.ntmps93
  go_wp2
  go_ret
  exact ⟨by first | rfl | (rw [← hs]; rfl), rfl⟩
theorem floats_ok (a b : Nat) (w : World) (ha : a < 18446744073709551616) (hb : b < 18446744073709551616) : Calls Try.prog 65 #[.float .f64 a, .float .f64 b] w fun e w' => e = .returned (.int .i64 (cFl a b)) ∧ w = w' := by
  have HS := hide (fun W => sameF_ok a b W ha hb)
  have HC := hide (fun W => cmpF_ok a b W ha hb)
  have H1 := hide (fun W => sgn_ok b W hb)
  have H2 := hide (fun W => sgn_ok a W ha)
  have HR := hide (show cFl a b = (if sameF a b = true then 0 else if cmpF a b = 0 then cBo (sgn b) (sgn a) else cmpF a b) from rfl)
  generalize cFl a b = R at *
  generalize sgn a = sa at *
  generalize sgn b = sb at *
  generalize sameF a b = S at *
  generalize cmpF a b = C at *
  clear ha hb
  cases S
  · by_cases hc : C = 0
    · have HR := hide ((unhide HR).trans (show _ = cBo sb sa by rw [if_neg (by simp), if_pos hc]))
      subst hc
      go_enter Try.func65, Try.ntmps65
      go_wp2_with fail
      refine (unhide HS _).mono ?_
      rintro e w1 ⟨rfl, rfl⟩
      go_wp2_with fail
      refine (unhide HC _).mono ?_
      rintro e w1 ⟨rfl, rfl⟩
      go_wp2_with fail
      refine (unhide H1 _).mono ?_
      rintro e w1 ⟨rfl, rfl⟩
      go_wp2_with fail
      refine (unhide H2 _).mono ?_
      rintro e w1 ⟨rfl, rfl⟩
      go_wp2_with fail
      refine (bools_ok sb sa _).mono ?_
      rintro e w1 ⟨rfl, rfl⟩
      go_wp2
      go_ret
      exact ⟨by rw [unhide HR]; rfl, rfl⟩
    · have HR := hide ((unhide HR).trans (show _ = C by rw [if_neg (by simp), if_neg hc]))
      go_enter Try.func65, Try.ntmps65
      go_wp2_with fail
      refine (unhide HS _).mono ?_
      rintro e w1 ⟨rfl, rfl⟩
      go_wp2_with fail
      refine (unhide HC _).mono ?_
      rintro e w1 ⟨rfl, rfl⟩
      go_wp2
      go_ret
      exact ⟨by rw [unhide HR]; rfl, rfl⟩
  · have HR := hide ((unhide HR).trans (show _ = (0 : Int) by rw [if_pos rfl]))
    go_enter Try.func65, Try.ntmps65
    go_wp2_with fail
    refine (unhide HS _).mono ?_
    rintro e w1 ⟨rfl, rfl⟩
    go_wp2
    go_ret
    exact ⟨by rw [unhide HR]; rfl, rfl⟩
end Go.Proofs.Ythpcpminikmcbaa.og
namespace Go.Proofs.Ythpcpminikmcbaa.stp
open Go.ChangeShapes Go.WideShapes Go.ChangeAt Go.RowKit
set_option linter.unusedVariables false
theorem list_three {α : Type} {l : List α} (h : l.length = 3) : ∃ x y z, l = [x, y, z] := by
  match l, h with
  | [x, y, z], _ => exact ⟨x, y, z, rfl⟩
theorem path_of {H : Type} {enc : TypeId × Value → H} {w : World} {base : Nat} {held : Bool} {fuel : Nat} {a0 : Option Addr} {len0 cap0 : Nat} {d : DataW H} {p : List MemPlace}
    (h : DataW.trod enc Try.prog w base (fun _ => true) held fuel 29 [.slice a0 len0 cap0] = some (d, p)) :
    ∃ ss : List St, Pth w a0 len0 ss ∧ len0 ≤ cap0 ∧ (a0 = none → cap0 = 0) ∧ (∀ s ∈ ss, s.nm.size ≤ maxLen ∧ (Lit.int .i64 s.ix).wf = true) := by
  have ce : Try.prog.cellsOf 34 = 3 := by kernel_rfl
  have ce0 : Try.prog.cellsOf 9 = 1 := by kernel_rfl
  have ce1 : Try.prog.cellsOf 3 = 1 := by kernel_rfl
  have ce2 : Try.prog.cellsOf 4 = 1 := by kernel_rfl
  rcases Go.Deep.open_slice Try.underlying29 h with ⟨hcs, _⟩ | ⟨a, len, cap, m, n, D, Pl, hcs, hb, hl, hm, hmm, hx, hcell⟩
  · simp at hcs
    obtain ⟨rfl, rfl, rfl⟩ := hcs
    exact ⟨[], ⟨rfl, .inl rfl⟩, Nat.le_refl _, fun _ => rfl, fun s hs => by simp at hs⟩
  · simp at hcs
    obtain ⟨rfl, rfl, rfl⟩ := hcs
    simp only [if_true] at hmm
    subst hmm
    rw [ce] at hcell
    have key : ∀ i, i < len0 → ∃ (b off : Nat) (s : St), a = ⟨b, off, none⟩ ∧ b < w.heap.size ∧ St3 w b (off + i * 3) s.nm s.ix s.it ∧ s.nm.size ≤ maxLen ∧ (Lit.int .i64 s.ix).wf = true := by
      intro i hi
      obtain ⟨cs', h1, h2⟩ := hcell i (by omega)
      obtain ⟨_, hlen, hc⟩ := World.cells?_some h1
      obtain ⟨y0, y1, y2, n', hD, _, t0, t1, t2⟩ := Go.Deep.trod_struct3 Try.underlying34 h2
      obtain ⟨v0, v1, v2, rfl⟩ := list_three hlen
      have e0 := hc 0 (by omega)
      have e1 := hc 1 (by omega)
      have e2 := hc 2 (by omega)
      obtain ⟨b, off, spot⟩ := a
      have hspot : spot = none := by
        obtain ⟨cs0, h10, h20⟩ := hcell 0 (by omega)
        obtain ⟨_, hlen0, hc0⟩ := World.cells?_some h10
        obtain ⟨q0, q1, q2, rfl⟩ := list_three hlen0
        have := hc0 0 (by omega)
        have : w.cell? (⟨b, off, spot⟩ : Addr) = some q0 := by simpa [Addr.add] using this
        simpa using World.cell?_spot this
      subst hspot
      rw [Go.Deep.add_add, Addr.add_lit] at e0 e1 e2
      simp only [ce0, List.drop_zero, List.take_succ_cons, List.take_zero] at t0
      simp only [ce1, List.drop_succ_cons, List.drop_zero, List.take_succ_cons, List.take_zero] at t1
      simp only [ce2, List.drop_succ_cons, List.drop_zero, List.take_succ_cons, List.take_zero] at t2
      simp only [List.getElem?_cons_zero, List.getElem?_cons_succ] at e0 e1 e2
      obtain ⟨s, hv0, _, hs⟩ := DataW.trod_string Try.underlying9 t0
      obtain ⟨x, hv1, _, hw⟩ := DataW.trod_int Try.underlying3 t1
      obtain ⟨z, hv2, _⟩ := DataW.trod_bool Try.underlying4 t2
      simp only [List.cons.injEq, and_true] at hv0 hv1 hv2
      subst hv0 hv1 hv2
      exact ⟨b, off, ⟨s, x, z⟩, rfl, World.block_lt_of_cell? w _ e0, ⟨by simpa using e0, by rw [Nat.add_assoc]; exact e1, by rw [Nat.add_assoc]; exact e2⟩, hs, hw⟩
    by_cases h0 : len0 = 0
    · exact ⟨[], ⟨by simp [h0], .inl h0⟩, by omega, (fun e => by cases e), fun s hs => by simp at hs⟩
    obtain ⟨b, off, _, rfl, hbw, _⟩ := key 0 (by omega)
    have key' : ∀ i, i < len0 → ∃ s : St, St3 w b (off + i * 3) s.nm s.ix s.it ∧ s.nm.size ≤ maxLen ∧ (Lit.int .i64 s.ix).wf = true := by
      intro i hi
      obtain ⟨b', off', s, e, _, r⟩ := key i hi
      simp only [Addr.mk.injEq, and_true] at e
      obtain ⟨rfl, rfl⟩ := e
      exact ⟨s, r⟩
    obtain ⟨f, hf⟩ : ∃ f : Nat → St, ∀ i, i < len0 → St3 w b (off + i * 3) (f i).nm (f i).ix (f i).it ∧ (f i).nm.size ≤ maxLen ∧ (Lit.int .i64 (f i).ix).wf = true := by
      refine ⟨fun i => if h : i < len0 then Classical.choose (key' i h) else ⟨⟨#[]⟩, 0, false⟩, fun i hi => ?_⟩
      simp only [dif_pos hi]
      exact Classical.choose_spec (key' i hi)
    refine ⟨(List.range len0).map f, ⟨by simp, .inr ⟨b, off, rfl, hbw, fun i hi => ⟨f i, by simp [hi], (hf i hi).1⟩⟩⟩, by omega, (fun e => by cases e), fun s hs => ?_⟩
    obtain ⟨i, hi, rfl⟩ := List.mem_map.1 hs
    exact (hf i (by simpa using hi)).2
theorem path_reach {H : Type} {enc : TypeId × Value → H} {w : World} {base : Nat} {held : Bool} {fuel : Nat} {a0 : Option Addr} {len0 cap0 : Nat} {d : DataW H} {p : List MemPlace}
    (h : DataW.trod enc Try.prog w base (fun _ => true) held fuel 29 [.slice a0 len0 cap0] = some (d, p)) (hN : ∀ n, n ∈ d.weights Try.prog 29 → n ≤ reachBytes) : len0 ≤ 140737488351232 := by
  have hb : Try.prog.bytesOf 34 = 32 := by kernel_rfl
  rcases Go.Deep.open_slice Try.underlying29 h with ⟨hcs, _⟩ | ⟨a, len, cap, m, n, D, Pl, hcs, hb0, hl, hm, hmm, hx, hcell⟩
  · simp at hcs
    omega
  · simp at hcs
    obtain ⟨rfl, rfl, rfl⟩ := hcs
    simp only [if_true] at hmm
    subst hmm
    simp only [Prod.mk.injEq] at hx
    have hm2 : m * 32 ∈ d.weights Try.prog 29 := by
      rw [hx.1]
      simp only [DataW.weights, Try.underlying29]
      refine List.mem_cons.2 (.inl ?_)
      rw [hb]
      simp only [List.length_map, List.length_range]
      rw [show len0 + (m - len0) = m from by omega]
    have := hN _ hm2
    unfold reachBytes at this
    omega
end Go.Proofs.Ythpcpminikmcbaa.stp
namespace Go.Proofs.Ythpcpminikmcbaa.og
open Go.ChangeShapes Go.WideShapes Go.ChangeAt Go.RowKit
open vl hiding cB cFl cS cF cI cK cIt
open stp (c3 c3_lt c3_gt c3_eq cB cB_tri)
open mem (dec_fin dec_inf dec_nan word_of order_fin sv)
set_option linter.unusedVariables false
set_option linter.unusedSimpArgs false
/-- one of three answers -/
def Rg (s : Int) : Prop := s = -1 ∨ s = 0 ∨ s = 1
/-- how three elements stand to each other: one and two, two and three, one and three -/
def Tr (a b c : Int) : Prop := (a = 0 → c = b) ∧ (b = 0 → c = a) ∧ (a = b → c = a) ∧ (c = 0 → a = -b)
theorem Rg.c3 (x y : Int) : Rg (stp.c3 x y) := by unfold Rg stp.c3; split <;> (try split) <;> omega
theorem Tr.c3 (x y z : Int) : Tr (stp.c3 x y) (stp.c3 y z) (stp.c3 x z) := by
  unfold Tr stp.c3
  split <;> split <;> split <;> (try split) <;> (try split) <;> (try split) <;> omega
theorem c3_anti (x y : Int) : c3 y x = - c3 x y := by unfold stp.c3; split <;> split <;> (try split) <;> omega
/-- two comparisons, one behind the other -/
def thn (a b : Int) : Int := if a = 0 then b else a
theorem Rg.thn {a b : Int} (h : Rg a) (k : Rg b) : Rg (og.thn a b) := by unfold og.thn; split <;> assumption
theorem Tr.thn {a b c a' b' c' : Int} (ra : Rg a) (rb : Rg b) (rc : Rg c) (h : Tr a b c) (k : Tr a' b' c') : Tr (og.thn a a') (og.thn b b') (og.thn c c') := by
  unfold Tr at h k ⊢
  unfold Rg at ra rb rc
  unfold og.thn
  rcases ra with rfl | rfl | rfl <;> rcases rb with rfl | rfl | rfl <;> rcases rc with rfl | rfl | rfl <;> simp at h ⊢ <;> first | exact k | omega
/-- as above, the second asked only where the first is level -/
theorem Tr.thn' {a b c a' b' c' : Int} (ra : Rg a) (rb : Rg b) (rc : Rg c) (ra' : Rg a') (rb' : Rg b') (rc' : Rg c') (h : Tr a b c) (k : a = 0 → b = 0 → Tr a' b' c') : Tr (og.thn a a') (og.thn b b') (og.thn c c') := by
  unfold Tr at h k ⊢
  unfold Rg at ra rb rc ra' rb' rc'
  unfold og.thn
  rcases ra with rfl | rfl | rfl <;> rcases rb with rfl | rfl | rfl <;> rcases rc with rfl | rfl | rfl <;> simp at h k ⊢ <;> first | exact k | omega
theorem lexG_cons {α : Type} (f : α → α → Int) (a b : α) (l r : List α) : lexG f (a :: l) (b :: r) = thn (f a b) (lexG f l r) := rfl
theorem Rg.lexG {α : Type} {f : α → α → Int} : ∀ (l r : List α), (∀ a ∈ l, ∀ b ∈ r, Rg (f a b)) → Rg (og.lexG f l r)
  | [], [], _ => .inr (.inl rfl)
  | [], _ :: _, _ => .inl rfl
  | _ :: _, [], _ => .inr (.inr rfl)
  | a :: l, b :: r, h => by
    rw [lexG_cons]
    exact Rg.thn (h a (List.mem_cons_self ..) b (List.mem_cons_self ..)) (Rg.lexG l r (fun x hx y hy => h x (List.mem_cons_of_mem _ hx) y (List.mem_cons_of_mem _ hy)))
theorem Tr.lexG {α : Type} {f : α → α → Int} : ∀ (l r s : List α), (∀ a b, (a ∈ l ∨ a ∈ r) → (b ∈ r ∨ b ∈ s) → Rg (f a b)) → (∀ a ∈ l, ∀ b ∈ r, ∀ c ∈ s, Tr (f a b) (f b c) (f a c)) → Tr (og.lexG f l r) (og.lexG f r s) (og.lexG f l s)
  | [], [], [], _, _ => by simp [og.lexG, Tr]
  | [], [], _ :: _, _, _ => by simp [og.lexG, Tr]
  | [], _ :: _, [], _, _ => by simp [og.lexG, Tr]
  | _ :: _, [], [], _, _ => by simp [og.lexG, Tr]
  | _ :: _, [], _ :: _, _, _ => by simp [og.lexG, Tr]
  | [], b :: r, c :: s, hR, h => by
    have e : Rg (og.lexG f (b :: r) (c :: s)) := Rg.lexG _ _ (fun x hx y hy => hR x y (.inr hx) (.inr hy))
    generalize og.lexG f (b :: r) (c :: s) = q at *
    show Tr (-1) q (-1)
    unfold Rg at e
    unfold Tr
    omega
  | a :: l, b :: r, [], hR, h => by
    have e : Rg (og.lexG f (a :: l) (b :: r)) := Rg.lexG _ _ (fun x hx y hy => hR x y (.inl hx) (.inl hy))
    generalize og.lexG f (a :: l) (b :: r) = q at *
    show Tr q 1 1
    unfold Rg at e
    unfold Tr
    omega
  | a :: l, b :: r, c :: s, hR, h => by
    rw [lexG_cons, lexG_cons, lexG_cons]
    have ma : a ∈ a :: l := List.mem_cons_self ..
    have mb : b ∈ b :: r := List.mem_cons_self ..
    have mc : c ∈ c :: s := List.mem_cons_self ..
    exact Tr.thn (hR a b (.inl ma) (.inl mb)) (hR b c (.inr mb) (.inr mc)) (hR a c (.inl ma) (.inr mc)) (h a ma b mb c mc)
      (Tr.lexG l r s (fun x y hx hy => hR x y (hx.imp (List.mem_cons_of_mem _) (List.mem_cons_of_mem _)) (hy.imp (List.mem_cons_of_mem _) (List.mem_cons_of_mem _))) (fun x hx y hy z hz => h x (List.mem_cons_of_mem _ hx) y (List.mem_cons_of_mem _ hy) z (List.mem_cons_of_mem _ hz)))
theorem cmpBytes_lex : ∀ a b : List UInt8, Lib.compareBytes a b = lexG (fun x y => c3 (x.toNat : Int) (y.toNat : Int)) a b
  | [], [] => by simp [Lib.compareBytes, lexG]
  | [], _ :: _ => by simp [Lib.compareBytes, lexG]
  | _ :: _, [] => by simp [Lib.compareBytes, lexG]
  | x :: a, y :: b => by
    rw [lexG_cons, ← cmpBytes_lex a b]
    unfold thn
    by_cases h1 : x < y
    · have h1' : x.toNat < y.toNat := UInt8.lt_iff_toNat_lt.1 h1
      have hc : c3 (x.toNat : Int) (y.toNat : Int) = -1 := c3_lt (by omega)
      simp [Lib.compareBytes, h1, hc]
    · by_cases h2 : y < x
      · have h2' : y.toNat < x.toNat := UInt8.lt_iff_toNat_lt.1 h2
        have hc : c3 (x.toNat : Int) (y.toNat : Int) = 1 := c3_gt (by omega)
        simp [Lib.compareBytes, h1, h2, hc]
      · have e : x = y := UInt8.le_antisymm (UInt8.not_lt.1 h2) (UInt8.not_lt.1 h1)
        subst e
        have hc : c3 (x.toNat : Int) (x.toNat : Int) = 0 := c3_eq rfl
        simp [Lib.compareBytes, h1, hc]
theorem Rg.cB (a b : ByteArray) : Rg (stp.cB a b) := by unfold stp.cB; rw [cmpBytes_lex]; exact Rg.lexG _ _ (fun _ _ _ _ => Rg.c3 _ _)
theorem Tr.cB (a b c : ByteArray) : Tr (stp.cB a b) (stp.cB b c) (stp.cB a c) := by unfold stp.cB; rw [cmpBytes_lex, cmpBytes_lex, cmpBytes_lex]; exact Tr.lexG _ _ _ (fun _ _ _ _ => Rg.c3 _ _) (fun _ _ _ _ _ _ => Tr.c3 _ _ _)
theorem Rg.cBo (a b : Bool) : Rg (og.cBo a b) := by cases a <;> cases b <;> simp [og.cBo, Rg]
theorem Tr.cBo (a b c : Bool) : Tr (og.cBo a b) (og.cBo b c) (og.cBo a c) := by cases a <;> cases b <;> cases c <;> simp [og.cBo, Tr]
/-- a float's place among all floats -/
def keyF (x : Nat) : Int := if nanF x = true then -18446744073709551616 else if 9223372036854775808 ≤ x then -((x % 9223372036854775808 : Nat) : Int) - 1 else ((x % 9223372036854775808 : Nat) : Int)
theorem ord_num (s t : Bool) (r q : Nat) (hr : r ≤ 9218868437227405312) (hq : q ≤ 9218868437227405312) : FloatKind.f64.format.order (Ieee.double.word s r) (Ieee.double.word t q) = some (compare (sv s (mem.vR r)) (sv t (mem.vR q))) := by
  show (FloatKind.f64.decode _).order (FloatKind.f64.decode _) = _
  rcases Nat.lt_or_eq_of_le hr with h1 | h1
  · rcases Nat.lt_or_eq_of_le hq with h2 | h2
    · rw [dec_fin s r h1, dec_fin t q h2, order_fin]; rfl
    · have hv : mem.vR r < mem.vR q := mem.vR_mono (by omega)
      subst h2
      rw [dec_fin s r h1, dec_inf]
      generalize mem.vR 9218868437227405312 = B at *
      generalize mem.vR r = A at *
      have : compare (sv s A) (sv t B) = if t = true then Ordering.gt else Ordering.lt := by
        cases t
        · simp only [Bool.false_eq_true, if_false]; rw [Int.compare_eq_lt]; cases s <;> simp [sv] <;> omega
        · simp only [if_true]; rw [Int.compare_eq_gt]; cases s <;> simp [sv] <;> omega
      rw [this]
      cases t <;> rfl
  · rcases Nat.lt_or_eq_of_le hq with h2 | h2
    · have hv : mem.vR q < mem.vR r := mem.vR_mono (by omega)
      subst h1
      rw [dec_fin t q h2, dec_inf]
      generalize mem.vR 9218868437227405312 = B at *
      generalize mem.vR q = A at *
      have : compare (sv s B) (sv t A) = if s = true then Ordering.lt else Ordering.gt := by
        cases s
        · simp only [Bool.false_eq_true, if_false]; rw [Int.compare_eq_gt]; cases t <;> simp [sv] <;> omega
        · simp only [if_true]; rw [Int.compare_eq_lt]; cases t <;> simp [sv] <;> omega
      rw [this]
      cases s <;> rfl
    · subst h1 h2
      rw [dec_inf, dec_inf]
      have hp : 0 < mem.vR 9218868437227405312 := Nat.lt_of_le_of_lt (Nat.zero_le _) (mem.vR_mono (a := 0) (by omega))
      generalize mem.vR 9218868437227405312 = B at *
      cases s <;> cases t
      · rw [Int.compare_eq_eq.2 rfl]; rfl
      · rw [show compare (sv false B) (sv true B) = Ordering.gt by rw [Int.compare_eq_gt]; simp [sv]; omega]; rfl
      · rw [show compare (sv true B) (sv false B) = Ordering.lt by rw [Int.compare_eq_lt]; simp [sv]; omega]; rfl
      · rw [Int.compare_eq_eq.2 rfl]; rfl
theorem cFl_key (a b : Nat) (ha : a < 18446744073709551616) (hb : b < 18446744073709551616) : cFl a b = c3 (keyF a) (keyF b) := by
  unfold cFl sameF cmpF keyF
  cases hA : nanF a <;> cases hB : nanF b
  · simp only [Bool.false_eq_true, if_false, Bool.and_false, Bool.false_and, Bool.or_false]
    have nA : a % 9223372036854775808 ≤ 9218868437227405312 := by unfold nanF at hA; simpa using hA
    have nB : b % 9223372036854775808 ≤ 9218868437227405312 := by unfold nanF at hB; simpa using hB
    have ho := ord_num (sgn a) (sgn b) _ _ nA nB
    unfold sgn at ho
    rw [word_of a ha, word_of b hb] at ho
    have vm : ∀ x y : Nat, x < y → mem.vR x < mem.vR y := fun x y h => mem.vR_mono h
    have vi : ∀ x y : Nat, x = y → mem.vR x = mem.vR y := fun x y h => by rw [h]
    have ea : ∃ r, a % 9223372036854775808 = r := ⟨_, rfl⟩
    have eb : ∃ q, b % 9223372036854775808 = q := ⟨_, rfl⟩
    obtain ⟨r, er⟩ := ea
    obtain ⟨q, eq⟩ := eb
    rw [er, eq] at ho
    rw [er, eq]
    rw [ho]
    by_cases hab : a = b
    · subst hab
      obtain rfl : r = q := er.symm.trans eq
      simp [c3]
    · have hab' : (a == b) = false := by simpa using hab
      rw [hab']
      simp only [Bool.false_eq_true, if_false]
      have z0 : mem.vR 0 = 0 := by simp [mem.vR, mem.mantR, mem.b52]
      have hz : ∀ x : Nat, 0 < x → 0 < mem.vR x := fun x hx => by have := vm 0 x hx; omega
      have key : compare (sv (decide (9223372036854775808 ≤ a)) (mem.vR r)) (sv (decide (9223372036854775808 ≤ b)) (mem.vR q)) = if r = 0 ∧ q = 0 then Ordering.eq else if (if 9223372036854775808 ≤ a then -(r : Int) - 1 else (r : Int)) < (if 9223372036854775808 ≤ b then -(q : Int) - 1 else (q : Int)) then Ordering.lt else Ordering.gt := by
        by_cases h00 : r = 0 ∧ q = 0
        · rw [if_pos h00, h00.1, h00.2, z0, Int.compare_eq_eq]
          by_cases sa : 9223372036854775808 ≤ a <;> by_cases sb : 9223372036854775808 ≤ b <;> simp [sv, sa, sb]
        · rw [if_neg h00]
          by_cases sa : 9223372036854775808 ≤ a <;> by_cases sb : 9223372036854775808 ≤ b <;> simp only [sa, sb, decide_true, decide_false, if_true, if_false, sv, Bool.false_eq_true]
          · rcases Nat.lt_trichotomy r q with h | h | h
            · have := vm _ _ h; rw [if_neg (by omega), Int.compare_eq_gt]; omega
            · exfalso; omega
            · have := vm _ _ h; rw [if_pos (by omega), Int.compare_eq_lt]; omega
          · rw [if_pos (by omega), Int.compare_eq_lt]
            rcases Nat.eq_zero_or_pos r with h | h
            · have := hz q (by omega); omega
            · have := hz r h; omega
          · rw [if_neg (by omega), Int.compare_eq_gt]
            rcases Nat.eq_zero_or_pos r with h | h
            · have := hz q (by omega); omega
            · have := hz r h; omega
          · rcases Nat.lt_trichotomy r q with h | h | h
            · have := vm _ _ h; rw [if_pos (by omega), Int.compare_eq_lt]; omega
            · exfalso; omega
            · have := vm _ _ h; rw [if_neg (by omega), Int.compare_eq_gt]; omega
      rw [key]
      clear key ho vm vi z0 hz
      by_cases h00 : r = 0 ∧ q = 0
      · obtain ⟨rfl, rfl⟩ := h00
        simp only [and_self, if_true]
        have e1 : (some Ordering.eq == some Ordering.lt) = false := by decide
        have e2 : (some Ordering.eq == some Ordering.gt) = false := by decide
        rw [e1, e2]
        simp only [Bool.false_eq_true, if_false, if_true]
        unfold cBo sgn c3
        by_cases sa : 9223372036854775808 ≤ a <;> by_cases sb : 9223372036854775808 ≤ b <;> simp [sa, sb] <;> omega
      · rw [if_neg h00]
        by_cases hlt : (if 9223372036854775808 ≤ a then -(r : Int) - 1 else (r : Int)) < (if 9223372036854775808 ≤ b then -(q : Int) - 1 else (q : Int))
        · rw [if_pos hlt, c3_lt hlt]
          rfl
        · have hne : (if 9223372036854775808 ≤ b then -(q : Int) - 1 else (q : Int)) < (if 9223372036854775808 ≤ a then -(r : Int) - 1 else (r : Int)) := by
            by_cases sa : 9223372036854775808 ≤ a <;> by_cases sb : 9223372036854775808 ≤ b <;> simp only [sa, sb, if_true, if_false] at hlt ⊢ <;> omega
          rw [if_neg hlt, c3_gt hne]
          rfl
  · have hne : (a == b) = false := by
      cases h : (a == b)
      · rfl
      · rw [eq_of_beq h] at hA; rw [hA] at hB; cases hB
    rw [hne]
    simp only [Bool.false_eq_true, if_false, if_true, Bool.false_and, Bool.or_false, Bool.false_or]
    rw [c3_gt (by split <;> omega)]
    rfl
  · have hne : (a == b) = false := by
      cases h : (a == b)
      · rfl
      · rw [eq_of_beq h] at hA; rw [hA] at hB; cases hB
    rw [hne]
    simp only [Bool.false_eq_true, if_false, if_true, Bool.and_false, Bool.or_false, Bool.false_or]
    rw [c3_lt (by split <;> omega)]
    rfl
  · simp [c3]
end Go.Proofs.Ythpcpminikmcbaa.og
namespace Go.Proofs.Ythpcpminikmcbaa.og
open Go.ChangeShapes Go.WideShapes Go.ChangeAt Go.RowKit
open vl hiding cB cFl cS cF cI cK cIt Hid hide unhide
open stp hiding compare_any cmpFunc_any order_any alike_any plain_any
set_option linter.unusedVariables false
set_option linter.unusedSimpArgs false
theorem int_cmpE (x t : Int) (w : World) : Calls Try.prog 106 #[.int .i64 x, .int .i64 t] w fun e w' => e = .returned (.int .i64 (c3 x t)) ∧ w = w' := by
  rcases Int.lt_trichotomy x t with h | h | h
  · go_enter Try.func106, Try.ntmps106
    go_wp2
    go_ret
    exact ⟨by rw [c3_lt h]; rfl, rfl⟩
  · go_enter Try.func106, Try.ntmps106
    go_wp2
    go_ret
    exact ⟨by rw [c3_eq (by omega)]; rfl, rfl⟩
  · go_enter Try.func106, Try.ntmps106
    go_wp2
    go_ret
    exact ⟨by rw [c3_gt h]; rfl, rfl⟩
theorem errno_cmpE (x t : Int) (w : World) : Calls Try.prog 75 #[.int .i64 x, .int .i64 t] w fun e w' => e = .returned (.int .i64 (c3 x t)) ∧ w = w' := by
  rcases Int.lt_trichotomy x t with h | h | h
  · go_enter Try.func75, Try.ntmps75
    go_wp2
    go_ret
    exact ⟨by rw [c3_lt h]; rfl, rfl⟩
  · go_enter Try.func75, Try.ntmps75
    go_wp2
    go_ret
    exact ⟨by rw [c3_eq (by omega)]; rfl, rfl⟩
  · go_enter Try.func75, Try.ntmps75
    go_wp2
    go_ret
    exact ⟨by rw [c3_gt h]; rfl, rfl⟩
theorem plainG (nm : ByteArray) (ix : Int) (it : Bool) (w : World) : Calls Try.prog 44 #[.agg #[.string nm, .int .i64 ix, .bool it]] w fun e w' => e = .returned (.agg #[.string (pN nm it), .int .i64 (pI ix it), .bool it]) ∧ Gr w w' := by
  cases it
  · go_enter Try.func44, Try.ntmps44
    go_wp2
    refine bodyPost_ret (results_cell_row rfl _ _ (w.heap.size + 1) 34 _ (0, 0) _ rfl (heap_alloc2_new _ _ _) Try.underlying34 rfl (by kernel_rfl)) rfl ?_
    exact ⟨rfl, ((Gr.refl _).alloc _).alloc _⟩
  · go_enter Try.func44, Try.ntmps44
    go_wp2
    refine bodyPost_ret (results_cell_row rfl _ _ (w.heap.size + 1) 34 _ (0, 0) _ rfl (heap_alloc2_new _ _ _) Try.underlying34 rfl (by kernel_rfl)) rfl ?_
    exact ⟨rfl, ((Gr.refl _).alloc _).alloc _⟩
theorem alikeG (n1 n2 : ByteArray) (x1 x2 : Int) (t1 t2 : Bool) (w : World) : Calls Try.prog 108 #[.agg #[.string n1, .int .i64 x1, .bool t1], .agg #[.string n2, .int .i64 x2, .bool t2]] w fun e w' => e = .returned (.bool (eqS n1 x1 t1 n2 x2 t2)) ∧ Gr w w' := by
  have HA := plainG n1 x1 t1
  have HB := plainG n2 x2 t2
  have HE := run_eqStep (pN n1 t1) (pN n2 t2) (pI x1 t1) (pI x2 t2) t1 t2
  go_enter Try.func108, Try.ntmps108
  go_wp2_with fail
  obtain ⟨W, eW, sW, k1, k2, bW⟩ := two_steps w n1 n2 x1 x2 t1 t2 34
  have gW : Gr w W := ⟨bW, by rw [← eW]; exact Nat.le_refl _⟩
  rw [eW]
  clear eW
  obtain ⟨a0, a1, a2⟩ := k1
  obtain ⟨b0, b1, b2⟩ := k2
  have hWl : w.heap.size + 1 < W.heap.size := by omega
  go_region_with (first
      | (go_at_call 44; refine (HA _).mono ?_; clear HA; rintro e w2 ⟨rfl, hb2⟩; have k1 := St3.below ⟨a0, a1, a2⟩ (by omega) ((Below.refl _ _).drew.trans hb2.1); have k2 := St3.below ⟨b0, b1, b2⟩ (by omega) ((Below.refl _ _).drew.trans hb2.1); obtain ⟨a0', a1', a2'⟩ := k1; obtain ⟨b0', b1', b2'⟩ := k2; clear a0 a1 a2 b0 b1 b2)
      | (go_at_call 44; refine (HB _).mono ?_; clear HB; rintro e w3 ⟨rfl, hb3⟩))
  all_goals go_wp2
  all_goals go_ret
  all_goals exact ⟨rfl, gW.trans ((Gr.refl W).drew.trans (hb2.trans hb3))⟩
theorem orderG (n1 n2 : ByteArray) (x1 x2 : Int) (t1 t2 : Bool) (w : World) : Calls Try.prog 80 #[.agg #[.string n1, .int .i64 x1, .bool t1], .agg #[.string n2, .int .i64 x2, .bool t2]] w fun e w' => e = .returned (.int .i64 (cS ⟨n1, x1, t1⟩ ⟨n2, x2, t2⟩)) ∧ Gr w w' := by
  go_enter Try.func80, Try.ntmps80
  go_wp2_with fail
  obtain ⟨W, eW, sW, k1, k2, bW⟩ := two_steps w n1 n2 x1 x2 t1 t2 34
  have gW : Gr w W := ⟨bW, by rw [← eW]; exact Nat.le_refl _⟩
  rw [eW]
  clear eW
  refine (alikeG n1 n2 x1 x2 t1 t2 W).mono ?_
  rintro e w2 ⟨rfl, hb2⟩
  rw [eqS_iff]
  obtain ⟨a0, a1, a2⟩ := k1.below (by omega) hb2.1
  obtain ⟨b0, b1, b2⟩ := k2.below (by omega) hb2.1
  have B2 : Gr w w2 := gW.trans hb2
  have s2 := hb2.1.size
  clear hb2 k1 k2 bW gW
  by_cases h0 : cS ⟨n1, x1, t1⟩ ⟨n2, x2, t2⟩ = 0
  · have h0 := hide h0
    rw [show (cS ⟨n1, x1, t1⟩ ⟨n2, x2, t2⟩ == 0) = true by simpa using unhide h0]
    go_wp2
    go_ret
    exact ⟨by rw [unhide h0]; rfl, B2⟩
  · rw [show (cS ⟨n1, x1, t1⟩ ⟨n2, x2, t2⟩ == 0) = false by simpa using h0]
    clear h0
    cases t1
    · cases t2
      · go_wp2_with fail
        refine (str_cmpE n1 n2 w2).mono ?_
        rintro e w3 ⟨rfl, rfl⟩
        go_wp2
        go_ret
        exact ⟨rfl, B2⟩
      · go_wp2
        go_ret
        exact ⟨rfl, B2⟩
    · cases t2
      · go_wp2
        go_ret
        exact ⟨rfl, B2⟩
      · go_wp2_with fail
        refine (int_cmpE x1 x2 w2).mono ?_
        rintro e w3 ⟨rfl, rfl⟩
        go_wp2
        go_ret
        exact ⟨rfl, B2⟩
theorem cmpStG (aA aB : Option Addr) (nA cA nB cB : Nat) (A B : List St) (w : World) (hA : Pth w aA nA A) (hB : Pth w aB nB B) (bA : nA ≤ 4611686018427387903) (bB : nB ≤ 4611686018427387903) :
    Calls Try.prog 79 #[.slice aA nA cA, .slice aB nB cB, .func (.func 80) #[] #[]] w fun e w' => e = .returned (.int .i64 (lexS A B)) ∧ Gr w w' := by
  go_enter Try.func79, Try.ntmps79
  go_wp2_with fail
  go_loopw [13] (fun v wr => ∃ k : Nat, k ≤ nA ∧ k ≤ nB ∧ v = .int .i64 k ∧ Gr w wr ∧ Hid (lexS A B = lexS (A.drop k) (B.drop k))) (fun v _ => nA - (intOf v).toNat)
  case atStart => exact ⟨0, Nat.zero_le _, Nat.zero_le _, rfl, Gr.refl _, rfl⟩
  case round =>
    obtain ⟨k, hkA, hkB, rfl, hbk, hl⟩ := hrel
    by_cases hlt : k < nA
    · have ki : (k : Int) < (nA : Int) := by omega
      rcases (hA.below hbk.1).at_ with h0 | ⟨b, off, rfl, hbw, hcell⟩
      · omega
      obtain ⟨s, hs, u0, u1, u2⟩ := hcell k hlt
      obtain ⟨n1, x1, t1⟩ := s
      have hs := hide hs
      clear hcell
      by_cases hlb : k < nB
      · have kb : (k : Int) < (nB : Int) := by omega
        rcases (hB.below hbk.1).at_ with h0 | ⟨b', off', rfl, hbw', hcell⟩
        · omega
        obtain ⟨s', hs', v0, v1, v2⟩ := hcell k hlb
        obtain ⟨n2, x2, t2⟩ := s'
        have hs' := hide hs'
        clear hcell
        simp only at u0 u1 u2 v0 v1 v2
        go_wp2_with fail
        refine (orderG n1 n2 x1 x2 t1 t2 _).mono ?_
        rintro e w2 ⟨rfl, hb2⟩
        have hb2 := ((hbk.alloc _).alloc _).trans hb2
        have hst := hide (lex_step (unhide hs) (unhide hs'))
        by_cases hc : cS ⟨n1, x1, t1⟩ ⟨n2, x2, t2⟩ = 0
        · have hc2 := hide hc
          rw [hc]
          clear hc
          go_wp2
          go_roundw
          case rel => exact ⟨k + 1, by omega, by omega, by go_num, hb2, (unhide hl).trans ((unhide hst).trans (if_pos (unhide hc2)))⟩
          case measure => simp [intOf]; omega
        · have hc2 := hide hc
          generalize hcv : cS ⟨n1, x1, t1⟩ ⟨n2, x2, t2⟩ = cv at *
          have hcv := hide hcv
          go_wp2
          go_ret
          exact ⟨by rw [unhide hl, unhide hst, if_neg (unhide hc2)]; rfl, hb2⟩
      · have kb : ¬ (k : Int) < (nB : Int) := by omega
        go_wp2
        go_ret
        exact ⟨by rw [unhide hl, lex_end2 (by rw [hA.len]; exact hlt) (by rw [hB.len]; omega)]; rfl, hbk.alloc _⟩
    · have ki : ¬ (k : Int) < (nA : Int) := by omega
      by_cases hlb : k < nB
      · have kb : (nA : Int) < (nB : Int) := by omega
        go_wp2
        go_ret
        exact ⟨by rw [unhide hl, lex_end1 (by rw [hA.len]; omega) (by rw [hB.len]; exact hlb)]; rfl, hbk⟩
      · have kb : ¬ (nA : Int) < (nB : Int) := by omega
        go_wp2
        go_ret
        exact ⟨by rw [unhide hl, lex_end0 (by rw [hA.len]; omega) (by rw [hB.len]; omega)]; rfl, hbk⟩
theorem compareG (aA aB : Option Addr) (nA cA nB cB : Nat) (A B : List St) (w : World) (hA : Pth w aA nA A) (hB : Pth w aB nB B) (bA : nA ≤ 4611686018427387903) (bB : nB ≤ 4611686018427387903) :
    Calls Try.prog 48 #[.slice aA nA cA, .slice aB nB cB] w fun e w' => e = .returned (.int .i64 (lexS A B)) ∧ Gr w w' := by
  go_enter Try.func48, Try.ntmps48
  go_wp2_with fail
  refine (cmpStG aA aB nA cA nB cB A B w hA hB bA bB).mono ?_
  rintro e w2 ⟨rfl, hb2⟩
  go_wp2
  go_ret
  exact ⟨rfl, hb2⟩
end Go.Proofs.Ythpcpminikmcbaa.og
namespace Go.Proofs.Ythpcpminikmcbaa.og
open Go.ChangeShapes Go.WideShapes Go.ChangeAt Go.RowKit
open vl hiding cB cFl cS cF cI cK cIt
open stp (c3 c3_lt c3_gt c3_eq cB cB_tri)
set_option linter.unusedVariables false
set_option linter.unusedSimpArgs false
/-- order at two values -/
def OrdAt (v u : Vl) : Prop := ∀ (cs ds : List Value) (w : World), VlC w v cs → VlC w u ds → Calls Try.prog 36 #[.agg cs.toArray, .agg ds.toArray] w fun e w' => e = .returned (.int .i64 (ordV v u)) ∧ Gr w w'
def OrdMAt (p q : ByteArray × Vl) : Prop := ∀ (cs ds : List Value) (w : World), VlC w p.2 cs → VlC w q.2 ds → Calls Try.prog 69 #[.agg (Value.string p.1 :: cs).toArray, .agg (Value.string q.1 :: ds).toArray] w fun e w' => e = .returned (.int .i64 (ordM p q)) ∧ Gr w w'
set_option maxHeartbeats 2000000 in
theorem ordM_ok (p q : ByteArray × Vl) (ih : OrdAt p.2 q.2) : OrdMAt p q := by
  intro cs ds w h1 h2
  obtain ⟨nm, v⟩ := p
  obtain ⟨nm', u⟩ := q
  simp only at h1 h2 ih ⊢
  have IH := hide (ih cs ds)
  have HO := hide (show ordM (nm, v) (nm', u) = (if cB nm nm' = 0 then ordV v u else cB nm nm') from rfl)
  have c8 := h1.cells
  have d8 := h2.cells
  obtain ⟨W, eW⟩ : ∃ W, W = (w.alloc (.cells (Value.string nm :: cs).toArray 69)).alloc (.cells (Value.string nm' :: ds).toArray 69) := ⟨_, rfl⟩
  have bW : Gr w W := by rw [eW]; exact ((Gr.refl _).alloc _).alloc _
  have r1 : W.rangeAt w.heap.size 0 (Value.string nm :: cs) := fun j x hx => by
    rw [eW, Nat.zero_add, World.cell?_alloc_past _ _ _ (by simp), World.cell?_alloc_at _ _ _ _ rfl]; simpa using hx
  have r2 : W.rangeAt (w.heap.size + 1) 0 (Value.string nm' :: ds) := fun j x hx => by
    rw [eW, Nat.zero_add, World.cell?_alloc_at _ _ _ _ (by simp)]; simpa using hx
  have a0 : W.cell? ⟨w.heap.size, 0, none⟩ = some (.string nm) := r1 0 _ rfl
  have b0 : W.cell? ⟨w.heap.size + 1, 0, none⟩ = some (.string nm') := r2 0 _ rfl
  have k1 : W.rangeAt w.heap.size 1 cs := fun j x hx => by have := r1 (j + 1) x (by simpa using hx); rwa [show 0 + (j + 1) = 1 + j by omega] at this
  have k2 : W.rangeAt (w.heap.size + 1) 1 ds := fun j x hx => by have := r2 (j + 1) x (by simpa using hx); rwa [show 0 + (j + 1) = 1 + j by omega] at this
  have i1 : (Try.prog.info? 27).map (·.size) = some cs.length := by rw [c8]; exact infoV
  have i2 : (Try.prog.info? 27).map (·.size) = some ds.length := by rw [d8]; exact infoV
  have HH := hide (And.intro k1 (And.intro k2 (And.intro i1 (And.intro i2 (And.intro (VlC.below bW.1 _ _ h1) (VlC.below bW.1 _ _ h2))))))
  have EW := hide eW
  clear eW r1 r2 k1 k2 i1 i2 h1 h2 c8 d8 ih
  generalize hcb : cB nm nm' = C at *
  have HCB := hide hcb
  clear hcb
  by_cases hc : C = 0
  · have HO := hide ((unhide HO).trans (if_pos hc))
    have HCB := hide ((unhide HCB).trans hc)
    subst hc
    go_enter Try.func69, Try.ntmps69
    go_wp2_with fail
    rw [← unhide EW]
    clear EW
    refine (str_cmpE nm nm' _).mono ?_
    rintro e w1 ⟨rfl, rfl⟩
    rw [unhide HCB]
    go_wp2_with (first
      | refine wpList_load_mid (by rfl) 27 _ (by rfl) w.heap.size 1 (by rfl) cs _ (unhide HH).1 Try.underlying27 (by rfl) (unhide HH).2.2.1 ?_
      | refine wpList_load_mid (by rfl) 27 _ (by rfl) (w.heap.size + 1) 1 (by rfl) ds _ (unhide HH).2.1 Try.underlying27 (by rfl) (unhide HH).2.2.2.1 ?_)
    refine (unhide IH _ (unhide HH).2.2.2.2.1 (unhide HH).2.2.2.2.2).mono ?_
    rintro e w2 ⟨rfl, g2⟩
    go_wp2
    go_ret
    exact ⟨by rw [unhide HO]; rfl, bW.trans g2⟩
  · have HO := hide ((unhide HO).trans (if_neg hc))
    have hc2 : (C != 0) = true := by simpa using hc
    go_enter Try.func69, Try.ntmps69
    go_wp2_with fail
    rw [← unhide EW]
    clear EW
    refine (str_cmpE nm nm' _).mono ?_
    rintro e w1 ⟨rfl, rfl⟩
    rw [unhide HCB]
    go_wp2
    go_ret
    exact ⟨by rw [unhide HO]; rfl, bW⟩
set_option maxHeartbeats 4000000 in
set_option maxRecDepth 6000 in
theorem cmpV_ok (A B : Vls) (ih : ∀ v ∈ A.list, ∀ u ∈ B.list, OrdAt v u) (aA aB : Option Addr) (nA cA nB cB' : Nat) (w : World) (hA : VlsAt w A aA nA) (hB : VlsAt w B aB nB) (bA : nA ≤ 4611686018427387903) (bB : nB ≤ 4611686018427387903) :
    Calls Try.prog 67 #[.slice aA nA cA, .slice aB nB cB', .func (.func 36) #[] #[]] w fun e w' => e = .returned (.int .i64 (lexG ordV A.list B.list)) ∧ Gr w w' := by
  have en : ∀ args w, (callFunc 36 args).run Try.prog w = .ok (.enter 36 args) w := fun _ _ => rfl
  have lA := hide (VlsAt.len A _ _ hA)
  have lB := hide (VlsAt.len B _ _ hB)
  go_enter Try.func67, Try.ntmps67
  go_wp2_with fail
  go_loopw [13] (fun v wr => ∃ k : Nat, k ≤ nA ∧ k ≤ nB ∧ v = .int .i64 k ∧ Gr w wr ∧ vl.Hid (lexG ordV A.list B.list = lexG ordV (A.list.drop k) (B.list.drop k))) (fun v _ => nA - (intOf v).toNat)
  case atStart => exact ⟨0, Nat.zero_le _, Nat.zero_le _, rfl, Gr.refl _, rfl⟩
  case round =>
    obtain ⟨k, hkA, hkB, rfl, hbk, hl⟩ := hrel
    by_cases hlt : k < nA
    · have ki : (k : Int) < (nA : Int) := by omega
      obtain ⟨b, off, v, cs, rfl, hg, hr, hv⟩ := VlsAt.get A _ _ (VlsAt.below hbk.1 A _ _ hA) k hlt
      have hr : wr.rangeAt b (off + k * 8) cs := hr
      have h1 := hv.one
      have c8 := hv.cells
      have i1 : (Try.prog.info? 27).map (·.size) = some cs.length := by rw [c8]; exact infoV
      have i2 : (Try.prog.info? 27).map (·.size) = some cs.toArray.size := by simp [c8, infoV]
      have HH := hide (And.intro i1 (And.intro i2 (And.intro (show cs.toArray.size = 8 by simp [c8]) c8)))
      clear i1 i2 c8
      by_cases hlb : k < nB
      · have kb : (k : Int) < (nB : Int) := by omega
        obtain ⟨b', off', u, ds, rfl, hg', hr', hv'⟩ := VlsAt.get B _ _ (VlsAt.below hbk.1 B _ _ hB) k hlb
        have g1 := hv'.one
        have d8 := hv'.cells
        have j1 : (Try.prog.info? 27).map (·.size) = some ds.length := by rw [d8]; exact infoV
        have j2 : (Try.prog.info? 27).map (·.size) = some ds.toArray.size := by simp [d8, infoV]
        obtain ⟨W, eW⟩ : ∃ W, W = (wr.alloc (.cells #[Value.int IntKind.i64 0, Value.bool false, Value.int IntKind.i64 0, Value.float FloatKind.f64 0, Value.string { data := #[] }, Value.string { data := #[] }, Value.slice none 0 0, Value.slice none 0 0] 27)).setCells wr.heap.size 0 cs := ⟨_, rfl⟩
        have bW : Gr wr W := by rw [eW]; exact ((Gr.refl _).alloc _).setCells (Nat.le_refl _) _ _
        have sW : W.heap.size = wr.heap.size + 1 := by rw [eW, size_setCells]; simp
        have rW : W.rangeAt wr.heap.size 0 cs := by rw [eW]; exact World.rangeAt_setCells_same _ _ _ _ (there_new (by show _ = cs.length; rw [(unhide HH).2.2.2]; rfl))
        have rW' : W.rangeAt b' (off' + k * 8) ds := Row8.below hr' bW.1
        have vW := VlC.below bW.1 _ _ hv
        have vW' := VlC.below bW.1 _ _ hv'
        obtain ⟨X, eX⟩ : ∃ X, X = (W.alloc (.cells #[Value.int IntKind.i64 0, Value.bool false, Value.int IntKind.i64 0, Value.float FloatKind.f64 0, Value.string { data := #[] }, Value.string { data := #[] }, Value.slice none 0 0, Value.slice none 0 0] 27)).setCells W.heap.size 0 ds := ⟨_, rfl⟩
        have bX : Gr W X := by rw [eX]; exact ((Gr.refl _).alloc _).setCells (Nat.le_refl _) _ _
        have rX : X.rangeAt W.heap.size 0 ds := by rw [eX]; exact World.rangeAt_setCells_same _ _ _ _ (there_new (by show _ = ds.length; rw [d8]; rfl))
        have rX' : X.rangeAt wr.heap.size 0 cs := Row8.below rW bX.1
        have IH := hide (ih v (List.mem_of_getElem? hg) u (List.mem_of_getElem? hg') cs ds X (VlC.below bX.1 _ _ vW) (VlC.below bX.1 _ _ vW'))
        have HS := hide (lexG_step (f := ordV) hg hg')
        have EW := hide eW
        have EX := hide eX
        have SW := hide sW
        have JJ := hide (And.intro j1 (And.intro j2 (And.intro (show ds.toArray.size = 8 by simp [d8]) d8)))
        have RR := hide (And.intro rW' (And.intro rX rX'))
        clear eW eX sW vW vW' j1 j2 d8 hv hv' rW hr' hg hg' rW' rX rX'
        go_wp2_with (first
          | (refine wpList_load_mid (by rfl) 27 _ (by rfl) b (off + k * 8) (by rfl) cs _ hr Try.underlying27 (by rfl) (unhide HH).1 ?_)
          | (refine wpList_store_mid (by rfl) 27 _ _ (by rfl) wr.heap.size 0 cs.toArray (by rfl) (by rfl) (there_new (by rw [(unhide HH).2.2.1]; rfl)) (unhide HH).2.1 h1 ?_; rw [show ((wr.alloc (.cells #[Value.int IntKind.i64 0, Value.bool false, Value.int IntKind.i64 0, Value.float FloatKind.f64 0, Value.string { data := #[] }, Value.string { data := #[] }, Value.slice none 0 0, Value.slice none 0 0] 27)).setCells wr.heap.size 0 cs.toArray.toList) = W from (unhide EW).symm]; clear hr)
          | (refine wpList_load_mid (by rfl) 27 _ (by rfl) b' (off' + k * 8) (by rfl) ds _ (unhide RR).1 Try.underlying27 (by rfl) (unhide JJ).1 ?_)
          | (refine wpList_store_mid (by rfl) 27 _ _ (by rfl) W.heap.size 0 ds.toArray (by rfl) (by rfl) (there_new (by rw [(unhide JJ).2.2.1]; rfl)) (unhide JJ).2.1 g1 ?_; rw [show ((W.alloc (.cells #[Value.int IntKind.i64 0, Value.bool false, Value.int IntKind.i64 0, Value.float FloatKind.f64 0, Value.string { data := #[] }, Value.string { data := #[] }, Value.slice none 0 0, Value.slice none 0 0] 27)).setCells W.heap.size 0 ds.toArray.toList) = X from (unhide EX).symm])
          | (refine wpList_load_mid (by rfl) 27 _ (by rfl) wr.heap.size 0 (by rfl) cs _ (unhide RR).2.2 Try.underlying27 (by rfl) (unhide HH).1 ?_)
          | (refine wpList_load_mid (by rfl) 27 _ (by rfl) W.heap.size 0 (by rfl) ds _ (unhide RR).2.1 Try.underlying27 (by rfl) (unhide JJ).1 ?_))
        refine (unhide IH).mono ?_
        rintro e w2 ⟨rfl, g2⟩
        have G2 : Gr w w2 := hbk.trans (bW.trans (bX.trans g2))
        by_cases hc : ordV v u = 0
        · have hc2 := hide hc
          rw [hc]
          clear hc
          go_wp2
          go_roundw
          case rel => exact ⟨k + 1, by omega, by omega, by go_num, G2, (unhide hl).trans ((unhide HS).trans (if_pos (unhide hc2)))⟩
          case measure => simp [intOf]; omega
        · have hc2 := hide hc
          generalize hcv : ordV v u = cv at *
          have hcv := hide hcv
          go_wp2
          go_ret
          exact ⟨by rw [unhide hl, unhide HS, if_neg (unhide hc2)]; rfl, G2⟩
      · have kb : ¬ (k : Int) < (nB : Int) := by omega
        go_wp2_with (first
          | (refine wpList_load_mid (by rfl) 27 _ (by rfl) b (off + k * 8) (by rfl) cs _ hr Try.underlying27 (by rfl) (unhide HH).1 ?_)
          | (refine wpList_store_mid (by rfl) 27 _ _ (by rfl) wr.heap.size 0 cs.toArray (by rfl) (by rfl) (there_new (by rw [(unhide HH).2.2.1]; rfl)) (unhide HH).2.1 h1 ?_))
        go_ret
        exact ⟨by rw [unhide hl, lexG_end2 (by rw [unhide lA]; exact hlt) (by rw [unhide lB]; omega)]; rfl, (hbk.alloc _).setCells hbk.1.size _ _⟩
    · have ki : ¬ (k : Int) < (nA : Int) := by omega
      by_cases hlb : k < nB
      · have kb : (nA : Int) < (nB : Int) := by omega
        go_wp2
        go_ret
        exact ⟨by rw [unhide hl, lexG_end1 (by rw [unhide lA]; omega) (by rw [unhide lB]; exact hlb)]; rfl, hbk⟩
      · have kb : ¬ (nA : Int) < (nB : Int) := by omega
        go_wp2
        go_ret
        exact ⟨by rw [unhide hl, lexG_end0 (by rw [unhide lA]; omega) (by rw [unhide lB]; omega)]; rfl, hbk⟩
end Go.Proofs.Ythpcpminikmcbaa.og
namespace Go.Proofs.Ythpcpminikmcbaa.og
open Go.ChangeShapes Go.WideShapes Go.ChangeAt Go.RowKit
open vl hiding cB cFl cS cF cI cK cIt
open stp (c3 c3_lt c3_gt c3_eq cB cB_tri)
set_option linter.unusedVariables false
set_option linter.unusedSimpArgs false
set_option maxHeartbeats 4000000 in
set_option maxRecDepth 6000 in
theorem cmpM_ok (A B : Fls) (ih : ∀ v ∈ A.list, ∀ u ∈ B.list, OrdMAt v u) (aA aB : Option Addr) (nA cA nB cB' : Nat) (w : World) (hA : FlsAt w A aA nA) (hB : FlsAt w B aB nB) (bA : nA ≤ 4611686018427387903) (bB : nB ≤ 4611686018427387903) :
    Calls Try.prog 68 #[.slice aA nA cA, .slice aB nB cB', .func (.func 69) #[] #[]] w fun e w' => e = .returned (.int .i64 (lexG ordM A.list B.list)) ∧ Gr w w' := by
  have en : ∀ args w, (callFunc 69 args).run Try.prog w = .ok (.enter 69 args) w := fun _ _ => rfl
  have lA := hide (FlsAt.len A _ _ hA)
  have lB := hide (FlsAt.len B _ _ hB)
  go_enter Try.func68, Try.ntmps68
  go_wp2_with fail
  go_loopw [13] (fun v wr => ∃ k : Nat, k ≤ nA ∧ k ≤ nB ∧ v = .int .i64 k ∧ Gr w wr ∧ vl.Hid (lexG ordM A.list B.list = lexG ordM (A.list.drop k) (B.list.drop k))) (fun v _ => nA - (intOf v).toNat)
  case atStart => exact ⟨0, Nat.zero_le _, Nat.zero_le _, rfl, Gr.refl _, rfl⟩
  case round =>
    obtain ⟨k, hkA, hkB, rfl, hbk, hl⟩ := hrel
    by_cases hlt : k < nA
    · have ki : (k : Int) < (nA : Int) := by omega
      obtain ⟨b, off, nm, v, cs, rfl, hg, hn0, -, hr, hv⟩ := FlsAt.get A _ _ (FlsAt.below hbk.1 A _ _ hA) k hlt
      have hr : wr.rangeAt b (off + k * 9) (Value.string nm :: cs) := row9 hr hn0
      have h1 := one9 nm hv
      have c8 := hv.cells
      have i1 : (Try.prog.info? 69).map (·.size) = some (Value.string nm :: cs).length := by rw [List.length_cons, c8]; exact infoM
      have i2 : (Try.prog.info? 69).map (·.size) = some (Value.string nm :: cs).toArray.size := by simp [c8, infoM]
      have HH := hide (And.intro i1 (And.intro i2 (And.intro (show (Value.string nm :: cs).toArray.size = 9 by simp [c8]) (show (Value.string nm :: cs).length = 9 by simp [c8]))))
      clear i1 i2 c8
      by_cases hlb : k < nB
      · have kb : (k : Int) < (nB : Int) := by omega
        obtain ⟨b', off', nm', u, ds, rfl, hg', hn0', -, hr', hv'⟩ := FlsAt.get B _ _ (FlsAt.below hbk.1 B _ _ hB) k hlb
        have g1 := one9 nm' hv'
        have d8 := hv'.cells
        have j1 : (Try.prog.info? 69).map (·.size) = some (Value.string nm' :: ds).length := by rw [List.length_cons, d8]; exact infoM
        have j2 : (Try.prog.info? 69).map (·.size) = some (Value.string nm' :: ds).toArray.size := by simp [d8, infoM]
        obtain ⟨W, eW⟩ : ∃ W, W = (wr.alloc (.cells #[Value.string { data := #[] }, Value.int IntKind.i64 0, Value.bool false, Value.int IntKind.i64 0, Value.float FloatKind.f64 0, Value.string { data := #[] }, Value.string { data := #[] }, Value.slice none 0 0, Value.slice none 0 0] 69)).setCells wr.heap.size 0 (Value.string nm :: cs) := ⟨_, rfl⟩
        have bW : Gr wr W := by rw [eW]; exact ((Gr.refl _).alloc _).setCells (Nat.le_refl _) _ _
        have sW : W.heap.size = wr.heap.size + 1 := by rw [eW, size_setCells]; simp
        have rW : W.rangeAt wr.heap.size 0 (Value.string nm :: cs) := by rw [eW]; exact World.rangeAt_setCells_same _ _ _ _ (there_new (by show _ = (Value.string nm :: cs).length; rw [(unhide HH).2.2.2]; rfl))
        have rW' : W.rangeAt b' (off' + k * 9) (Value.string nm' :: ds) := Row8.below (row9 hr' hn0') bW.1
        have vW := VlC.below bW.1 _ _ hv
        have vW' := VlC.below bW.1 _ _ hv'
        obtain ⟨X, eX⟩ : ∃ X, X = (W.alloc (.cells #[Value.string { data := #[] }, Value.int IntKind.i64 0, Value.bool false, Value.int IntKind.i64 0, Value.float FloatKind.f64 0, Value.string { data := #[] }, Value.string { data := #[] }, Value.slice none 0 0, Value.slice none 0 0] 69)).setCells W.heap.size 0 (Value.string nm' :: ds) := ⟨_, rfl⟩
        have bX : Gr W X := by rw [eX]; exact ((Gr.refl _).alloc _).setCells (Nat.le_refl _) _ _
        have rX : X.rangeAt W.heap.size 0 (Value.string nm' :: ds) := by rw [eX]; exact World.rangeAt_setCells_same _ _ _ _ (there_new (by show _ = (Value.string nm' :: ds).length; rw [List.length_cons, d8]; rfl))
        have rX' : X.rangeAt wr.heap.size 0 (Value.string nm :: cs) := Row8.below rW bX.1
        have IH := hide (ih (nm, v) (List.mem_of_getElem? hg) (nm', u) (List.mem_of_getElem? hg') cs ds X (VlC.below bX.1 _ _ vW) (VlC.below bX.1 _ _ vW'))
        have HS := hide (lexG_step (f := ordM) hg hg')
        have EW := hide eW
        have EX := hide eX
        have SW := hide sW
        have JJ := hide (And.intro j1 (And.intro j2 (And.intro (show (Value.string nm' :: ds).toArray.size = 9 by simp [d8]) (show (Value.string nm' :: ds).length = 9 by simp [d8]))))
        have RR := hide (And.intro rW' (And.intro rX rX'))
        clear eW eX sW vW vW' hn0' j1 j2 d8 hv hv' rW hr' hg hg' rW' rX rX'
        go_wp2_with (first
          | (refine wpList_load_mid (by rfl) 69 _ (by rfl) b (off + k * 9) (by rfl) (Value.string nm :: cs) _ hr Try.underlying69 (by rfl) (unhide HH).1 ?_)
          | (refine wpList_store_mid (by rfl) 69 _ _ (by rfl) wr.heap.size 0 (Value.string nm :: cs).toArray (by rfl) (by rfl) (there_new (by rw [(unhide HH).2.2.1]; rfl)) (unhide HH).2.1 h1 ?_; rw [show ((wr.alloc (.cells #[Value.string { data := #[] }, Value.int IntKind.i64 0, Value.bool false, Value.int IntKind.i64 0, Value.float FloatKind.f64 0, Value.string { data := #[] }, Value.string { data := #[] }, Value.slice none 0 0, Value.slice none 0 0] 69)).setCells wr.heap.size 0 (Value.string nm :: cs).toArray.toList) = W from (unhide EW).symm]; clear hr)
          | (refine wpList_load_mid (by rfl) 69 _ (by rfl) b' (off' + k * 9) (by rfl) (Value.string nm' :: ds) _ (unhide RR).1 Try.underlying69 (by rfl) (unhide JJ).1 ?_)
          | (refine wpList_store_mid (by rfl) 69 _ _ (by rfl) W.heap.size 0 (Value.string nm' :: ds).toArray (by rfl) (by rfl) (there_new (by rw [(unhide JJ).2.2.1]; rfl)) (unhide JJ).2.1 g1 ?_; rw [show ((W.alloc (.cells #[Value.string { data := #[] }, Value.int IntKind.i64 0, Value.bool false, Value.int IntKind.i64 0, Value.float FloatKind.f64 0, Value.string { data := #[] }, Value.string { data := #[] }, Value.slice none 0 0, Value.slice none 0 0] 69)).setCells W.heap.size 0 (Value.string nm' :: ds).toArray.toList) = X from (unhide EX).symm])
          | (refine wpList_load_mid (by rfl) 69 _ (by rfl) wr.heap.size 0 (by rfl) (Value.string nm :: cs) _ (unhide RR).2.2 Try.underlying69 (by rfl) (unhide HH).1 ?_)
          | (refine wpList_load_mid (by rfl) 69 _ (by rfl) W.heap.size 0 (by rfl) (Value.string nm' :: ds) _ (unhide RR).2.1 Try.underlying69 (by rfl) (unhide JJ).1 ?_))
        refine (unhide IH).mono ?_
        rintro e w2 ⟨rfl, g2⟩
        have G2 : Gr w w2 := hbk.trans (bW.trans (bX.trans g2))
        by_cases hc : ordM (nm, v) (nm', u) = 0
        · have hc2 := hide hc
          rw [hc]
          clear hc
          go_wp2
          go_roundw
          case rel => exact ⟨k + 1, by omega, by omega, by go_num, G2, (unhide hl).trans ((unhide HS).trans (if_pos (unhide hc2)))⟩
          case measure => simp [intOf]; omega
        · have hc2 := hide hc
          generalize hcv : ordM (nm, v) (nm', u) = cv at *
          have hcv := hide hcv
          go_wp2
          go_ret
          exact ⟨by rw [unhide hl, unhide HS, if_neg (unhide hc2)]; rfl, G2⟩
      · have kb : ¬ (k : Int) < (nB : Int) := by omega
        go_wp2_with (first
          | (refine wpList_load_mid (by rfl) 69 _ (by rfl) b (off + k * 9) (by rfl) (Value.string nm :: cs) _ hr Try.underlying69 (by rfl) (unhide HH).1 ?_)
          | (refine wpList_store_mid (by rfl) 69 _ _ (by rfl) wr.heap.size 0 (Value.string nm :: cs).toArray (by rfl) (by rfl) (there_new (by rw [(unhide HH).2.2.1]; rfl)) (unhide HH).2.1 h1 ?_))
        go_ret
        exact ⟨by rw [unhide hl, lexG_end2 (by rw [unhide lA]; exact hlt) (by rw [unhide lB]; omega)]; rfl, (hbk.alloc _).setCells hbk.1.size _ _⟩
    · have ki : ¬ (k : Int) < (nA : Int) := by omega
      by_cases hlb : k < nB
      · have kb : (nA : Int) < (nB : Int) := by omega
        go_wp2
        go_ret
        exact ⟨by rw [unhide hl, lexG_end1 (by rw [unhide lA]; omega) (by rw [unhide lB]; exact hlb)]; rfl, hbk⟩
      · have kb : ¬ (nA : Int) < (nB : Int) := by omega
        go_wp2
        go_ret
        exact ⟨by rw [unhide hl, lexG_end0 (by rw [unhide lA]; omega) (by rw [unhide lB]; omega)]; rfl, hbk⟩
end Go.Proofs.Ythpcpminikmcbaa.og
