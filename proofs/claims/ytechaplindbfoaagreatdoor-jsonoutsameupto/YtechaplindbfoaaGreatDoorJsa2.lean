import Derived.Test.YtechaplindbfoaaGreatDoorJpa13
import Derived.WalkKit
import Derived.ProofKit
import Derived.OpenShut
import Derived.ShutString
import Derived.Below
import Derived.SizedLaws
import Derived.Deep.Strs
import Derived.Deep.MidRow
import Derived.Deep.WholeRow
import Derived.Lib.SliceRun
import Derived.Laws.OwnMore
import Derived.Outline
import Derived.Laws.Pointers
import Derived.Laws.Rows
import Derived.Deep.RegionHeld3
import Derived.OrdersHeld
import Derived.Laws.ResultCell
import GoSem.Core.Float
import Derived.Laws.Cover2
import Derived.Laws.FloatArith
import Derived.Lib.Bytealg
import Derived.Laws.Externs
import Derived.Laws.StructEq
import Derived.RegionCalls
import Derived.Deep.RegionLaw
import Derived.Deep.QuietTactic
import Derived.Deep.AppendLies
import Derived.Shelf.Abstract
import Derived.Shelf.RegionOpen
import Derived.OwnWalkIn
import Derived.TacticsInMore
import Derived.LoopNIn
import Derived.LoopIn
import Derived.Lib.MinMax
namespace Go.Proofs.YtechaplindbfoaaGreatDoor.vl
open Go.ChangeShapes Go.WideShapes Go.ChangeAt Go.RowKit
open mem
set_option linter.unusedVariables false
def nanF (x : Nat) : Bool := decide (9218868437227405312 < x % 9223372036854775808)
theorem ordSelf (x : Nat) (h : x < 18446744073709551616) : (FloatKind.f64.format.order x x != some Ordering.eq) = nanF x ∧ (FloatKind.f64.format.order x x == some Ordering.eq) = !nanF x := by
  have key : (FloatKind.f64.format.order x x == some Ordering.eq) = !nanF x := by
    have hw := word_of x h
    obtain ⟨r, hr⟩ : ∃ r, r = x % 9223372036854775808 := ⟨_, rfl⟩
    obtain ⟨ng, hng⟩ : ∃ ng, ng = decide (9223372036854775808 ≤ x) := ⟨_, rfl⟩
    have hrl : r < 9223372036854775808 := by omega
    unfold nanF
    rw [← hr]
    rw [← hr, ← hng] at hw
    clear hr hng
    rw [← hw]
    show ((FloatKind.f64.decode _).order (FloatKind.f64.decode _) == some Ordering.eq) = _
    rcases Nat.lt_trichotomy r 9218868437227405312 with h1 | h1 | h1
    · rw [dec_fin ng r h1, order_fin, Int.compare_eq_eq.2 rfl, decide_eq_false (by omega)]; rfl
    · subst h1
      rw [dec_inf, decide_eq_false (by omega)]
      cases ng <;> rfl
    · obtain ⟨f, hf⟩ := dec_nan ng r h1 hrl
      rw [hf, decide_eq_true h1]; rfl
  refine ⟨?_, key⟩
  show (!(FloatKind.f64.format.order x x == some Ordering.eq)) = _
  rw [key]
  cases nanF x <;> rfl
end Go.Proofs.YtechaplindbfoaaGreatDoor.vl
namespace Go.Proofs.YtechaplindbfoaaGreatDoor.stp
open Go.ChangeShapes Go.WideShapes Go.ChangeAt Go.RowKit
set_option linter.unusedVariables false

theorem hide {p : Prop} (h : p) : Hid p := h
theorem unhide {p : Prop} (h : Hid p) : p := h
def c3 (x t : Int) : Int := if x < t then -1 else if t < x then 1 else 0
theorem c3_lt {x t : Int} (h : x < t) : c3 x t = -1 := by simp [c3, h]
theorem c3_gt {x t : Int} (h : t < x) : c3 x t = 1 := by simp [c3, h, show ¬ x < t by omega]
theorem c3_eq {x t : Int} (h : x = t) : c3 x t = 0 := by simp [c3, h]
/-- two texts, byte by byte -/
def cB (a b : ByteArray) : Int := Lib.compareBytes a.data.toList b.data.toList
theorem cmpL_tri : ∀ a b : List UInt8, (Lib.compareBytes a b = -1 ∧ Op.bytesLess a b = true ∧ a ≠ b) ∨ (Lib.compareBytes a b = 0 ∧ Op.bytesLess a b = false ∧ a = b) ∨ (Lib.compareBytes a b = 1 ∧ Op.bytesLess a b = false ∧ a ≠ b)
  | [], [] => by simp [Lib.compareBytes, Op.bytesLess]
  | [], _ :: _ => by simp [Lib.compareBytes, Op.bytesLess]
  | _ :: _, [] => by simp [Lib.compareBytes, Op.bytesLess]
  | x :: a, y :: b => by
    have ih := cmpL_tri a b
    by_cases h1 : x < y
    · left
      refine ⟨by simp [Lib.compareBytes, h1], by simp [Op.bytesLess, h1], ?_⟩
      intro e
      simp only [List.cons.injEq] at e
      rw [e.1] at h1
      exact UInt8.lt_irrefl _ h1
    · by_cases h2 : y < x
      · right; right
        have hne : x ≠ y := fun e => by rw [e] at h2; exact UInt8.lt_irrefl _ h2
        refine ⟨by simp [Lib.compareBytes, h1, h2], by simp [Op.bytesLess, h1, hne], ?_⟩
        intro e
        simp only [List.cons.injEq] at e
        exact hne e.1
      · have e : x = y := UInt8.le_antisymm (UInt8.not_lt.1 h2) (UInt8.not_lt.1 h1)
        subst e
        simpa [Lib.compareBytes, Op.bytesLess, UInt8.lt_irrefl] using ih
theorem toList_data (a : ByteArray) : a.toList = a.data.toList := Lib.toList_data a
theorem cB_tri (a b : ByteArray) : (cB a b = -1 ∧ Op.bytesLess a.toList b.toList = true ∧ a ≠ b) ∨ (cB a b = 0 ∧ Op.bytesLess a.toList b.toList = false ∧ a = b) ∨ (cB a b = 1 ∧ Op.bytesLess a.toList b.toList = false ∧ a ≠ b) := by
  rw [toList_data, toList_data]
  have hab : a = b ↔ a.data.toList = b.data.toList := by
    constructor
    · intro e; rw [e]
    · intro e
      obtain ⟨⟨x⟩⟩ := a
      obtain ⟨⟨y⟩⟩ := b
      simp at e
      rw [e]
  rcases cmpL_tri a.data.toList b.data.toList with ⟨h1, h2, h3⟩ | ⟨h1, h2, h3⟩ | ⟨h1, h2, h3⟩
  · exact .inl ⟨h1, h2, fun e => h3 (hab.1 e)⟩
  · exact .inr (.inl ⟨h1, h2, hab.2 h3⟩)
  · exact .inr (.inr ⟨h1, h2, fun e => h3 (hab.1 e)⟩)
theorem run_cmp (a b : ByteArray) (w : World) : (callFunc 96 #[.string a, .string b]).run Tryz.prog w = .ok (.value (.int .i64 (cB a b))) w := by
  rw [run_callFunc_extern (e := Extern.BytealgCompare.compare) Tryz.func96 (by kernel_rfl) (by kernel_rfl) (by kernel_rfl) (by kernel_rfl), Lib.run_compareString]
  rfl
/-- a step of a path -/
structure St where
  nm : ByteArray
  ix : Int
  it : Bool
/-- a step's three cells -/
def St3 (w : World) (b o : Nat) (nm : ByteArray) (ix : Int) (it : Bool) : Prop := w.cell? ⟨b, o, none⟩ = some (.string nm) ∧ w.cell? ⟨b, o + 1, none⟩ = some (.int .i64 ix) ∧ w.cell? ⟨b, o + 2, none⟩ = some (.bool it)
theorem St3.below {w w' : World} {b o : Nat} {nm : ByteArray} {ix : Int} {it : Bool} (h : St3 w b o nm ix it) (hb : b < w.heap.size) (hB : Below w.heap.size w w') : St3 w' b o nm ix it :=
  ⟨(hB.cell (p := ⟨b, o, none⟩) hb).trans h.1, (hB.cell (p := ⟨b, o + 1, none⟩) hb).trans h.2.1, (hB.cell (p := ⟨b, o + 2, none⟩) hb).trans h.2.2⟩
end Go.Proofs.YtechaplindbfoaaGreatDoor.stp
namespace Go.Proofs.YtechaplindbfoaaGreatDoor.stp
open Go.ChangeShapes Go.WideShapes Go.ChangeAt Go.RowKit
set_option linter.unusedVariables false
/-- a path: a slice of steps that is read -/
structure Pth (w : World) (a : Option Addr) (n : Nat) (ss : List St) : Prop where
  len : ss.length = n
  at_ : n = 0 ∨ ∃ b off, a = some ⟨b, off, none⟩ ∧ b < w.heap.size ∧ ∀ i, i < n → ∃ s, ss[i]? = some s ∧ St3 w b (off + i * 3) s.nm s.ix s.it
theorem Pth.below {w w' : World} {a : Option Addr} {n : Nat} {ss : List St} (h : Pth w a n ss) (hb : Below w.heap.size w w') : Pth w' a n ss := by
  refine ⟨h.len, ?_⟩
  rcases h.at_ with h0 | ⟨b, off, ha, hlt, hc⟩
  · exact .inl h0
  · refine .inr ⟨b, off, ha, Nat.lt_of_lt_of_le hlt hb.size, fun i hi => ?_⟩
    obtain ⟨s, hs, k⟩ := hc i hi
    exact ⟨s, hs, k.below hlt hb⟩
end Go.Proofs.YtechaplindbfoaaGreatDoor.stp
namespace Go.Proofs.YtechaplindbfoaaGreatDoor.og
open Go.ChangeShapes Go.WideShapes Go.ChangeAt Go.RowKit
open vl hiding cB cFl cS cF cI cK cIt
open stp (c3 c3_lt c3_gt c3_eq cB cB_tri)
set_option linter.unusedVariables false
set_option linter.unusedSimpArgs false
/-- all that lay stays, draws are only added -/
def Gr (w w' : World) : Prop := Below w.heap.size w w' ∧ w.drawn ≤ w'.drawn
theorem Gr.refl (w : World) : Gr w w := ⟨Below.refl _ _, Nat.le_refl _⟩
theorem Gr.trans {a b c : World} (h : Gr a b) (k : Gr b c) : Gr a c := ⟨h.1.trans (k.1.mono h.1.size), Nat.le_trans h.2 k.2⟩
theorem Gr.alloc {a w : World} (h : Gr a w) (o : Obj) : Gr a (w.alloc o) := ⟨h.1.alloc h.1.size o, h.2⟩
theorem Gr.drew {a w : World} (h : Gr a w) : Gr a { w with drawn := w.drawn + 1 } := ⟨h.1.drew, Nat.le_succ_of_le h.2⟩
theorem drawn_setCells (b : Nat) : ∀ (vs : List Value) (o : Nat) (w : World), (w.setCells b o vs).drawn = w.drawn
  | [], o, w => rfl
  | v :: r, o, w => by rw [World.setCells, drawn_setCells b r (o + 1)]; rfl
theorem Gr.setCells {a w : World} (h : Gr a w) {b : Nat} (hb : a.heap.size ≤ b) (o : Nat) (vs : List Value) : Gr a (w.setCells b o vs) := ⟨below_setCells _ _ _ _ h.1 hb, by rw [drawn_setCells]; exact h.2⟩
/-- the kind that counts -/
def kdOf (k : Int) : Int := if k < 0 ∨ 7 < k then 0 else k
theorem kdOf_rng (k : Int) : kdOf k = 0 ∨ kdOf k = 1 ∨ kdOf k = 2 ∨ kdOf k = 3 ∨ kdOf k = 4 ∨ kdOf k = 5 ∨ kdOf k = 6 ∨ kdOf k = 7 := by
  unfold kdOf
  split <;> omega
def cBo (a b : Bool) : Int := if a = b then 0 else if b = true then -1 else 1
def sameF (a b : Nat) : Bool := (a == b) || (nanF a && nanF b)
def cmpF (a b : Nat) : Int := if nanF a = true then (if nanF b = true then 0 else -1) else if nanF b = true then 1 else if (FloatKind.f64.format.order a b == some Ordering.lt) = true then -1 else if (FloatKind.f64.format.order a b == some Ordering.gt) = true then 1 else 0
def sgn (a : Nat) : Bool := decide (9223372036854775808 ≤ a)
def cFl (a b : Nat) : Int := if sameF a b = true then 0 else if cmpF a b = 0 then cBo (sgn b) (sgn a) else cmpF a b
/-- element by element; the shorter one first -/
def lexG {α : Type} (f : α → α → Int) : List α → List α → Int
  | [], [] => 0
  | [], _ :: _ => -1
  | _ :: _, [] => 1
  | a :: l, b :: r => if f a b = 0 then lexG f l r else f a b
theorem lexG_end1 {α : Type} {f : α → α → Int} {A B : List α} {k : Nat} (hA : A.length ≤ k) (hB : k < B.length) : lexG f (A.drop k) (B.drop k) = -1 := by
  rw [List.drop_eq_nil_of_le hA, List.drop_eq_getElem_cons hB]
  rfl
theorem lexG_end2 {α : Type} {f : α → α → Int} {A B : List α} {k : Nat} (hA : k < A.length) (hB : B.length ≤ k) : lexG f (A.drop k) (B.drop k) = 1 := by
  rw [List.drop_eq_nil_of_le hB, List.drop_eq_getElem_cons hA]
  rfl
theorem lexG_end0 {α : Type} {f : α → α → Int} {A B : List α} {k : Nat} (hA : A.length ≤ k) (hB : B.length ≤ k) : lexG f (A.drop k) (B.drop k) = 0 := by
  rw [List.drop_eq_nil_of_le hB, List.drop_eq_nil_of_le hA]
  rfl
theorem lexG_step {α : Type} {f : α → α → Int} {A B : List α} {k : Nat} {a b : α} (hA : A[k]? = some a) (hB : B[k]? = some b) : lexG f (A.drop k) (B.drop k) = if f a b = 0 then lexG f (A.drop (k + 1)) (B.drop (k + 1)) else f a b := by
  obtain ⟨h1, rfl⟩ := List.getElem?_eq_some_iff.1 hA
  obtain ⟨h2, rfl⟩ := List.getElem?_eq_some_iff.1 hB
  rw [List.drop_eq_getElem_cons h1, List.drop_eq_getElem_cons h2]
  rfl
mutual
/-- the order of values -/
def ordV : Vl → Vl → Int
  | .mk kd b n f tx ty its fls, .mk kd' b' n' f' tx' ty' its' fls' =>
    if c3 (kdOf kd) (kdOf kd') = 0 then
      (if kdOf kd = 1 then cBo b b' else if kdOf kd = 2 then c3 n n' else if kdOf kd = 3 then cFl f f' else if kdOf kd = 4 then cB tx tx' else if kdOf kd = 5 then ordI its its' else if kdOf kd = 6 then ordF fls fls' else if kdOf kd = 7 then (if cB ty ty' = 0 then cB tx tx' else cB ty ty') else 0)
    else c3 (kdOf kd) (kdOf kd')
def ordI : Vls → Vls → Int
  | .nil, .nil => 0
  | .nil, .cons _ _ => -1
  | .cons _ _, .nil => 1
  | .cons v r, .cons u s => if ordV v u = 0 then ordI r s else ordV v u
def ordF : Fls → Fls → Int
  | .nil, .nil => 0
  | .nil, .cons _ _ _ => -1
  | .cons _ _ _, .nil => 1
  | .cons nm v r, .cons nm' u s => if (if cB nm nm' = 0 then ordV v u else cB nm nm') = 0 then ordF r s else (if cB nm nm' = 0 then ordV v u else cB nm nm')
end
/-- the order of members -/
def ordM (p q : ByteArray × Vl) : Int := if cB p.1 q.1 = 0 then ordV p.2 q.2 else cB p.1 q.1
theorem ordI_lex : ∀ a b : Vls, ordI a b = lexG ordV a.list b.list
  | .nil, .nil => by simp [ordI, Vls.list, lexG]
  | .nil, .cons _ _ => by simp [ordI, Vls.list, lexG]
  | .cons _ _, .nil => by simp [ordI, Vls.list, lexG]
  | .cons v r, .cons u s => by rw [ordI, ordI_lex r s]; rfl
theorem ordF_lex : ∀ a b : Fls, ordF a b = lexG ordM a.list b.list
  | .nil, .nil => by simp [ordF, Fls.list, lexG]
  | .nil, .cons _ _ _ => by simp [ordF, Fls.list, lexG]
  | .cons _ _ _, .nil => by simp [ordF, Fls.list, lexG]
  | .cons nm v r, .cons nm' u s => by rw [ordF, ordF_lex r s]; rfl
end Go.Proofs.YtechaplindbfoaaGreatDoor.og
namespace Go.Proofs.YtechaplindbfoaaGreatDoor.og
open Go.ChangeShapes Go.WideShapes Go.ChangeAt Go.RowKit
open vl hiding cB cFl cS cF cI cK cIt
open stp (c3 c3_lt c3_gt c3_eq cB cB_tri)
open mem (dec_fin dec_inf dec_nan word_of order_fin sv)
set_option linter.unusedVariables false
set_option linter.unusedSimpArgs false
/-- one of three answers -/
def Rg (s : Int) : Prop := s = -1 ∨ s = 0 ∨ s = 1
/-- how three elements stand to each other: one and two, two and three, one and three -/
def Tr (a b c : Int) : Prop := (a = 0 → c = b) ∧ (b = 0 → c = a) ∧ (a = b → c = a) ∧ (c = 0 → a = -b)
theorem Rg.c3 (x y : Int) : Rg (stp.c3 x y) := by unfold Rg stp.c3; split <;> (try split) <;> omega
theorem Tr.c3 (x y z : Int) : Tr (stp.c3 x y) (stp.c3 y z) (stp.c3 x z) := by
  unfold Tr stp.c3
  split <;> split <;> split <;> (try split) <;> (try split) <;> (try split) <;> omega
/-- two comparisons, one behind the other -/
def thn (a b : Int) : Int := if a = 0 then b else a
theorem Rg.thn {a b : Int} (h : Rg a) (k : Rg b) : Rg (og.thn a b) := by unfold og.thn; split <;> assumption
theorem Tr.thn {a b c a' b' c' : Int} (ra : Rg a) (rb : Rg b) (rc : Rg c) (h : Tr a b c) (k : Tr a' b' c') : Tr (og.thn a a') (og.thn b b') (og.thn c c') := by
  unfold Tr at h k ⊢
  unfold Rg at ra rb rc
  unfold og.thn
  rcases ra with rfl | rfl | rfl <;> rcases rb with rfl | rfl | rfl <;> rcases rc with rfl | rfl | rfl <;> simp at h ⊢ <;> first | exact k | omega
/-- as above, the second asked only where the first is level -/
theorem Tr.thn' {a b c a' b' c' : Int} (ra : Rg a) (rb : Rg b) (rc : Rg c) (ra' : Rg a') (rb' : Rg b') (rc' : Rg c') (h : Tr a b c) (k : a = 0 → b = 0 → Tr a' b' c') : Tr (og.thn a a') (og.thn b b') (og.thn c c') := by
  unfold Tr at h k ⊢
  unfold Rg at ra rb rc ra' rb' rc'
  unfold og.thn
  rcases ra with rfl | rfl | rfl <;> rcases rb with rfl | rfl | rfl <;> rcases rc with rfl | rfl | rfl <;> simp at h k ⊢ <;> first | exact k | omega
theorem lexG_cons {α : Type} (f : α → α → Int) (a b : α) (l r : List α) : lexG f (a :: l) (b :: r) = thn (f a b) (lexG f l r) := rfl
theorem Rg.lexG {α : Type} {f : α → α → Int} : ∀ (l r : List α), (∀ a ∈ l, ∀ b ∈ r, Rg (f a b)) → Rg (og.lexG f l r)
  | [], [], _ => .inr (.inl rfl)
  | [], _ :: _, _ => .inl rfl
  | _ :: _, [], _ => .inr (.inr rfl)
  | a :: l, b :: r, h => by
    rw [lexG_cons]
    exact Rg.thn (h a (List.mem_cons_self ..) b (List.mem_cons_self ..)) (Rg.lexG l r (fun x hx y hy => h x (List.mem_cons_of_mem _ hx) y (List.mem_cons_of_mem _ hy)))
theorem Tr.lexG {α : Type} {f : α → α → Int} : ∀ (l r s : List α), (∀ a b, (a ∈ l ∨ a ∈ r) → (b ∈ r ∨ b ∈ s) → Rg (f a b)) → (∀ a ∈ l, ∀ b ∈ r, ∀ c ∈ s, Tr (f a b) (f b c) (f a c)) → Tr (og.lexG f l r) (og.lexG f r s) (og.lexG f l s)
  | [], [], [], _, _ => by simp [og.lexG, Tr]
  | [], [], _ :: _, _, _ => by simp [og.lexG, Tr]
  | [], _ :: _, [], _, _ => by simp [og.lexG, Tr]
  | _ :: _, [], [], _, _ => by simp [og.lexG, Tr]
  | _ :: _, [], _ :: _, _, _ => by simp [og.lexG, Tr]
  | [], b :: r, c :: s, hR, h => by
    have e : Rg (og.lexG f (b :: r) (c :: s)) := Rg.lexG _ _ (fun x hx y hy => hR x y (.inr hx) (.inr hy))
    generalize og.lexG f (b :: r) (c :: s) = q at *
    show Tr (-1) q (-1)
    unfold Rg at e
    unfold Tr
    omega
  | a :: l, b :: r, [], hR, h => by
    have e : Rg (og.lexG f (a :: l) (b :: r)) := Rg.lexG _ _ (fun x hx y hy => hR x y (.inl hx) (.inl hy))
    generalize og.lexG f (a :: l) (b :: r) = q at *
    show Tr q 1 1
    unfold Rg at e
    unfold Tr
    omega
  | a :: l, b :: r, c :: s, hR, h => by
    rw [lexG_cons, lexG_cons, lexG_cons]
    have ma : a ∈ a :: l := List.mem_cons_self ..
    have mb : b ∈ b :: r := List.mem_cons_self ..
    have mc : c ∈ c :: s := List.mem_cons_self ..
    exact Tr.thn (hR a b (.inl ma) (.inl mb)) (hR b c (.inr mb) (.inr mc)) (hR a c (.inl ma) (.inr mc)) (h a ma b mb c mc)
      (Tr.lexG l r s (fun x y hx hy => hR x y (hx.imp (List.mem_cons_of_mem _) (List.mem_cons_of_mem _)) (hy.imp (List.mem_cons_of_mem _) (List.mem_cons_of_mem _))) (fun x hx y hy z hz => h x (List.mem_cons_of_mem _ hx) y (List.mem_cons_of_mem _ hy) z (List.mem_cons_of_mem _ hz)))
theorem cmpBytes_lex : ∀ a b : List UInt8, Lib.compareBytes a b = lexG (fun x y => c3 (x.toNat : Int) (y.toNat : Int)) a b
  | [], [] => by simp [Lib.compareBytes, lexG]
  | [], _ :: _ => by simp [Lib.compareBytes, lexG]
  | _ :: _, [] => by simp [Lib.compareBytes, lexG]
  | x :: a, y :: b => by
    rw [lexG_cons, ← cmpBytes_lex a b]
    unfold thn
    by_cases h1 : x < y
    · have h1' : x.toNat < y.toNat := UInt8.lt_iff_toNat_lt.1 h1
      have hc : c3 (x.toNat : Int) (y.toNat : Int) = -1 := c3_lt (by omega)
      simp [Lib.compareBytes, h1, hc]
    · by_cases h2 : y < x
      · have h2' : y.toNat < x.toNat := UInt8.lt_iff_toNat_lt.1 h2
        have hc : c3 (x.toNat : Int) (y.toNat : Int) = 1 := c3_gt (by omega)
        simp [Lib.compareBytes, h1, h2, hc]
      · have e : x = y := UInt8.le_antisymm (UInt8.not_lt.1 h2) (UInt8.not_lt.1 h1)
        subst e
        have hc : c3 (x.toNat : Int) (x.toNat : Int) = 0 := c3_eq rfl
        simp [Lib.compareBytes, h1, hc]
theorem Rg.cB (a b : ByteArray) : Rg (stp.cB a b) := by unfold stp.cB; rw [cmpBytes_lex]; exact Rg.lexG _ _ (fun _ _ _ _ => Rg.c3 _ _)
theorem Tr.cB (a b c : ByteArray) : Tr (stp.cB a b) (stp.cB b c) (stp.cB a c) := by unfold stp.cB; rw [cmpBytes_lex, cmpBytes_lex, cmpBytes_lex]; exact Tr.lexG _ _ _ (fun _ _ _ _ => Rg.c3 _ _) (fun _ _ _ _ _ _ => Tr.c3 _ _ _)
theorem Rg.cBo (a b : Bool) : Rg (og.cBo a b) := by cases a <;> cases b <;> simp [og.cBo, Rg]
theorem Tr.cBo (a b c : Bool) : Tr (og.cBo a b) (og.cBo b c) (og.cBo a c) := by cases a <;> cases b <;> cases c <;> simp [og.cBo, Tr]
/-- a float's place among all floats -/
def keyF (x : Nat) : Int := if nanF x = true then -18446744073709551616 else if 9223372036854775808 ≤ x then -((x % 9223372036854775808 : Nat) : Int) - 1 else ((x % 9223372036854775808 : Nat) : Int)
theorem ord_num (s t : Bool) (r q : Nat) (hr : r ≤ 9218868437227405312) (hq : q ≤ 9218868437227405312) : FloatKind.f64.format.order (Ieee.double.word s r) (Ieee.double.word t q) = some (compare (sv s (mem.vR r)) (sv t (mem.vR q))) := by
  show (FloatKind.f64.decode _).order (FloatKind.f64.decode _) = _
  rcases Nat.lt_or_eq_of_le hr with h1 | h1
  · rcases Nat.lt_or_eq_of_le hq with h2 | h2
    · rw [dec_fin s r h1, dec_fin t q h2, order_fin]; rfl
    · have hv : mem.vR r < mem.vR q := mem.vR_mono (by omega)
      subst h2
      rw [dec_fin s r h1, dec_inf]
      generalize mem.vR 9218868437227405312 = B at *
      generalize mem.vR r = A at *
      have : compare (sv s A) (sv t B) = if t = true then Ordering.gt else Ordering.lt := by
        cases t
        · simp only [Bool.false_eq_true, if_false]; rw [Int.compare_eq_lt]; cases s <;> simp [sv] <;> omega
        · simp only [if_true]; rw [Int.compare_eq_gt]; cases s <;> simp [sv] <;> omega
      rw [this]
      cases t <;> rfl
  · rcases Nat.lt_or_eq_of_le hq with h2 | h2
    · have hv : mem.vR q < mem.vR r := mem.vR_mono (by omega)
      subst h1
      rw [dec_fin t q h2, dec_inf]
      generalize mem.vR 9218868437227405312 = B at *
      generalize mem.vR q = A at *
      have : compare (sv s B) (sv t A) = if s = true then Ordering.lt else Ordering.gt := by
        cases s
        · simp only [Bool.false_eq_true, if_false]; rw [Int.compare_eq_gt]; cases t <;> simp [sv] <;> omega
        · simp only [if_true]; rw [Int.compare_eq_lt]; cases t <;> simp [sv] <;> omega
      rw [this]
      cases s <;> rfl
    · subst h1 h2
      rw [dec_inf, dec_inf]
      have hp : 0 < mem.vR 9218868437227405312 := Nat.lt_of_le_of_lt (Nat.zero_le _) (mem.vR_mono (a := 0) (by omega))
      generalize mem.vR 9218868437227405312 = B at *
      cases s <;> cases t
      · rw [Int.compare_eq_eq.2 rfl]; rfl
      · rw [show compare (sv false B) (sv true B) = Ordering.gt by rw [Int.compare_eq_gt]; simp [sv]; omega]; rfl
      · rw [show compare (sv true B) (sv false B) = Ordering.lt by rw [Int.compare_eq_lt]; simp [sv]; omega]; rfl
      · rw [Int.compare_eq_eq.2 rfl]; rfl
theorem cFl_key (a b : Nat) (ha : a < 18446744073709551616) (hb : b < 18446744073709551616) : cFl a b = c3 (keyF a) (keyF b) := by
  unfold cFl sameF cmpF keyF
  cases hA : nanF a <;> cases hB : nanF b
  · simp only [Bool.false_eq_true, if_false, Bool.and_false, Bool.false_and, Bool.or_false]
    have nA : a % 9223372036854775808 ≤ 9218868437227405312 := by unfold nanF at hA; simpa using hA
    have nB : b % 9223372036854775808 ≤ 9218868437227405312 := by unfold nanF at hB; simpa using hB
    have ho := ord_num (sgn a) (sgn b) _ _ nA nB
    unfold sgn at ho
    rw [word_of a ha, word_of b hb] at ho
    have vm : ∀ x y : Nat, x < y → mem.vR x < mem.vR y := fun x y h => mem.vR_mono h
    have vi : ∀ x y : Nat, x = y → mem.vR x = mem.vR y := fun x y h => by rw [h]
    have ea : ∃ r, a % 9223372036854775808 = r := ⟨_, rfl⟩
    have eb : ∃ q, b % 9223372036854775808 = q := ⟨_, rfl⟩
    obtain ⟨r, er⟩ := ea
    obtain ⟨q, eq⟩ := eb
    rw [er, eq] at ho
    rw [er, eq]
    rw [ho]
    by_cases hab : a = b
    · subst hab
      obtain rfl : r = q := er.symm.trans eq
      simp [c3]
    · have hab' : (a == b) = false := by simpa using hab
      rw [hab']
      simp only [Bool.false_eq_true, if_false]
      have z0 : mem.vR 0 = 0 := by simp [mem.vR, mem.mantR, mem.b52]
      have hz : ∀ x : Nat, 0 < x → 0 < mem.vR x := fun x hx => by have := vm 0 x hx; omega
      have key : compare (sv (decide (9223372036854775808 ≤ a)) (mem.vR r)) (sv (decide (9223372036854775808 ≤ b)) (mem.vR q)) = if r = 0 ∧ q = 0 then Ordering.eq else if (if 9223372036854775808 ≤ a then -(r : Int) - 1 else (r : Int)) < (if 9223372036854775808 ≤ b then -(q : Int) - 1 else (q : Int)) then Ordering.lt else Ordering.gt := by
        by_cases h00 : r = 0 ∧ q = 0
        · rw [if_pos h00, h00.1, h00.2, z0, Int.compare_eq_eq]
          by_cases sa : 9223372036854775808 ≤ a <;> by_cases sb : 9223372036854775808 ≤ b <;> simp [sv, sa, sb]
        · rw [if_neg h00]
          by_cases sa : 9223372036854775808 ≤ a <;> by_cases sb : 9223372036854775808 ≤ b <;> simp only [sa, sb, decide_true, decide_false, if_true, if_false, sv, Bool.false_eq_true]
          · rcases Nat.lt_trichotomy r q with h | h | h
            · have := vm _ _ h; rw [if_neg (by omega), Int.compare_eq_gt]; omega
            · exfalso; omega
            · have := vm _ _ h; rw [if_pos (by omega), Int.compare_eq_lt]; omega
          · rw [if_pos (by omega), Int.compare_eq_lt]
            rcases Nat.eq_zero_or_pos r with h | h
            · have := hz q (by omega); omega
            · have := hz r h; omega
          · rw [if_neg (by omega), Int.compare_eq_gt]
            rcases Nat.eq_zero_or_pos r with h | h
            · have := hz q (by omega); omega
            · have := hz r h; omega
          · rcases Nat.lt_trichotomy r q with h | h | h
            · have := vm _ _ h; rw [if_pos (by omega), Int.compare_eq_lt]; omega
            · exfalso; omega
            · have := vm _ _ h; rw [if_neg (by omega), Int.compare_eq_gt]; omega
      rw [key]
      clear key ho vm vi z0 hz
      by_cases h00 : r = 0 ∧ q = 0
      · obtain ⟨rfl, rfl⟩ := h00
        simp only [and_self, if_true]
        have e1 : (some Ordering.eq == some Ordering.lt) = false := by decide
        have e2 : (some Ordering.eq == some Ordering.gt) = false := by decide
        rw [e1, e2]
        simp only [Bool.false_eq_true, if_false, if_true]
        unfold cBo sgn c3
        by_cases sa : 9223372036854775808 ≤ a <;> by_cases sb : 9223372036854775808 ≤ b <;> simp [sa, sb] <;> omega
      · rw [if_neg h00]
        by_cases hlt : (if 9223372036854775808 ≤ a then -(r : Int) - 1 else (r : Int)) < (if 9223372036854775808 ≤ b then -(q : Int) - 1 else (q : Int))
        · rw [if_pos hlt, c3_lt hlt]
          rfl
        · have hne : (if 9223372036854775808 ≤ b then -(q : Int) - 1 else (q : Int)) < (if 9223372036854775808 ≤ a then -(r : Int) - 1 else (r : Int)) := by
            by_cases sa : 9223372036854775808 ≤ a <;> by_cases sb : 9223372036854775808 ≤ b <;> simp only [sa, sb, if_true, if_false] at hlt ⊢ <;> omega
          rw [if_neg hlt, c3_gt hne]
          rfl
  · have hne : (a == b) = false := by
      cases h : (a == b)
      · rfl
      · rw [eq_of_beq h] at hA; rw [hA] at hB; cases hB
    rw [hne]
    simp only [Bool.false_eq_true, if_false, if_true, Bool.false_and, Bool.or_false, Bool.false_or]
    rw [c3_gt (by split <;> omega)]
    rfl
  · have hne : (a == b) = false := by
      cases h : (a == b)
      · rfl
      · rw [eq_of_beq h] at hA; rw [hA] at hB; cases hB
    rw [hne]
    simp only [Bool.false_eq_true, if_false, if_true, Bool.and_false, Bool.or_false, Bool.false_or]
    rw [c3_lt (by split <;> omega)]
    rfl
  · simp [c3]
end Go.Proofs.YtechaplindbfoaaGreatDoor.og
namespace Go.Proofs.YtechaplindbfoaaGreatDoor.og
open Go.ChangeShapes Go.WideShapes Go.ChangeAt Go.RowKit
open vl hiding cB cFl cS cF cI cK cIt
open stp (c3 c3_lt c3_gt c3_eq cB cB_tri)
set_option linter.unusedVariables false
set_option linter.unusedSimpArgs false
def kdW : Vl → Int
  | .mk kd _ _ _ _ _ _ _ => kdOf kd
def kidsI : Vl → List Vl
  | .mk _ _ _ _ _ _ its _ => its.list
def kidsF : Vl → List (ByteArray × Vl)
  | .mk _ _ _ _ _ _ _ fls => fls.list
/-- how two values of one kind stand to each other -/
def leafV (K : Int) : Vl → Vl → Int
  | .mk _ b n f tx ty its fls, .mk _ b' n' f' tx' ty' its' fls' => if K = 1 then cBo b b' else if K = 2 then c3 n n' else if K = 3 then cFl f f' else if K = 4 then cB tx tx' else if K = 5 then lexG ordV its.list its'.list else if K = 6 then lexG ordM fls.list fls'.list else if K = 7 then thn (cB ty ty') (cB tx tx') else 0
theorem ordV_thn (v u : Vl) : ordV v u = thn (c3 (kdW v) (kdW u)) (leafV (kdW v) v u) := by
  obtain ⟨kd, b, n, f, tx, ty, its, fls⟩ := v
  obtain ⟨kd', b', n', f', tx', ty', its', fls'⟩ := u
  rw [ordV, ordI_lex, ordF_lex]
  rfl
theorem rg_leaf (K : Int) (v u : Vl) (hs : Small v) (hu : Small u) (hI : ∀ x y, x ∈ kidsI v → y ∈ kidsI u → Rg (ordV x y)) (hF : ∀ x y, x ∈ kidsF v → y ∈ kidsF u → Rg (ordM x y)) : Rg (leafV K v u) := by
  obtain ⟨kd, b, n, f, tx, ty, its, fls⟩ := v
  obtain ⟨kd', b', n', f', tx', ty', its', fls'⟩ := u
  unfold Small at hs hu
  simp only [leafV]
  split
  · exact Rg.cBo _ _
  · split
    · exact Rg.c3 _ _
    · split
      · rw [cFl_key _ _ hs.2.2.1 hu.2.2.1]; exact Rg.c3 _ _
      · split
        · exact Rg.cB _ _
        · split
          · exact Rg.lexG _ _ (fun x hx y hy => hI x y hx hy)
          · split
            · exact Rg.lexG _ _ (fun x hx y hy => hF x y hx hy)
            · split
              · exact Rg.thn (Rg.cB _ _) (Rg.cB _ _)
              · exact .inr (.inl rfl)
theorem Rg.ordV : ∀ v : Vl, Small v → ∀ u : Vl, Small u → Rg (og.ordV v u) := by
  refine Vl.all ?_
  intro kd b n f tx ty its fls hI hF hs u hu
  rw [ordV_thn]
  have h1 := hs
  have h2 := hu
  obtain ⟨kd', b', n', f', tx', ty', its', fls'⟩ := u
  unfold Small at h1 h2
  exact Rg.thn (Rg.c3 _ _) (rg_leaf _ _ _ hs hu (fun x y hx hy => hI x hx (h1.2.2.2.1.all x hx) y (h2.2.2.2.1.all y hy)) (fun x y hx hy => Rg.thn (Rg.cB _ _) (hF x hx (h1.2.2.2.2.all x hx) y.2 (h2.2.2.2.2.all y hy))))
theorem Rg.ordM (p q : ByteArray × Vl) (hp : Small p.2) (hq : Small q.2) : Rg (og.ordM p q) := Rg.thn (Rg.cB _ _) (Rg.ordV _ hp _ hq)
theorem rg_leaf' (K : Int) (v u : Vl) (hs : Small v) (hu : Small u) : Rg (leafV K v u) := by
  have h1 := hs
  have h2 := hu
  obtain ⟨kd, b, n, f, tx, ty, its, fls⟩ := v
  obtain ⟨kd', b', n', f', tx', ty', its', fls'⟩ := u
  unfold Small at h1 h2
  exact rg_leaf K _ _ hs hu (fun x y hx hy => Rg.ordV x (h1.2.2.2.1.all x hx) y (h2.2.2.2.1.all y hy)) (fun x y hx hy => Rg.ordM x y (h1.2.2.2.2.all x hx) (h2.2.2.2.2.all y hy))
theorem c3_zero' {x t : Int} (h : c3 x t = 0) : x = t := by
  unfold stp.c3 at h
  split at h
  · omega
  · split at h <;> omega
theorem Tr.ordV : ∀ v : Vl, Small v → ∀ u : Vl, Small u → ∀ w : Vl, Small w → Tr (og.ordV v u) (og.ordV u w) (og.ordV v w) := by
  refine Vl.all ?_
  intro kd b n f tx ty its fls hI hF hs u hu w hw
  rw [ordV_thn _ u, ordV_thn u w, ordV_thn _ w]
  refine Tr.thn' (Rg.c3 _ _) (Rg.c3 _ _) (Rg.c3 _ _) (rg_leaf' _ _ _ hs hu) (rg_leaf' _ _ _ hu hw) (rg_leaf' _ _ _ hs hw) (Tr.c3 _ _ _) (fun e1 e2 => ?_)
  have e1 := c3_zero' e1
  rw [← e1]
  generalize kdW (.mk kd b n f tx ty its fls) = K at *
  clear e1 e2
  obtain ⟨kd', b', n', f', tx', ty', its', fls'⟩ := u
  obtain ⟨kd2, b2, n2, f2, tx2, ty2, its2, fls2⟩ := w
  unfold Small at hs hu hw
  simp only [leafV]
  split
  · exact Tr.cBo _ _ _
  · split
    · exact Tr.c3 _ _ _
    · split
      · rw [cFl_key _ _ hs.2.2.1 hu.2.2.1, cFl_key _ _ hu.2.2.1 hw.2.2.1, cFl_key _ _ hs.2.2.1 hw.2.2.1]; exact Tr.c3 _ _ _
      · split
        · exact Tr.cB _ _ _
        · split
          · exact Tr.lexG _ _ _ (fun x y hx hy => Rg.ordV x (hx.elim (hs.2.2.2.1.all x) (hu.2.2.2.1.all x)) y (hy.elim (hu.2.2.2.1.all y) (hw.2.2.2.1.all y))) (fun x hx y hy z hz => hI x hx (hs.2.2.2.1.all x hx) y (hu.2.2.2.1.all y hy) z (hw.2.2.2.1.all z hz))
          · split
            · refine Tr.lexG _ _ _ (fun x y hx hy => Rg.ordM x y (hx.elim (hs.2.2.2.2.all x) (hu.2.2.2.2.all x)) (hy.elim (hu.2.2.2.2.all y) (hw.2.2.2.2.all y))) (fun x hx y hy z hz => ?_)
              exact Tr.thn (Rg.cB _ _) (Rg.cB _ _) (Rg.cB _ _) (Tr.cB _ _ _) (hF x hx (hs.2.2.2.2.all x hx) y.2 (hu.2.2.2.2.all y hy) z.2 (hw.2.2.2.2.all z hz))
            · split
              · exact Tr.thn (Rg.cB _ _) (Rg.cB _ _) (Rg.cB _ _) (Tr.cB _ _ _) (Tr.cB _ _ _)
              · simp [Tr]
theorem Tr.ordM (p q r : ByteArray × Vl) (hp : Small p.2) (hq : Small q.2) (hr : Small r.2) : Tr (og.ordM p q) (og.ordM q r) (og.ordM p r) :=
  Tr.thn (Rg.cB _ _) (Rg.cB _ _) (Rg.cB _ _) (Tr.cB _ _ _) (Tr.ordV _ hp _ hq _ hr)
end Go.Proofs.YtechaplindbfoaaGreatDoor.og
namespace Go.Proofs.YtechaplindbfoaaGreatDoor.og
open Go.ChangeShapes Go.WideShapes Go.ChangeAt Go.RowKit
open vl hiding cB cFl cS cF cI cK cIt
set_option linter.unusedVariables false
set_option linter.unusedSimpArgs false
mutual
/-- these eight cells are the value v, and none of its lists lies in a block of Q -/
def AvC (Q : Nat → Prop) (w : World) : Vl → List Value → Prop
  | .mk kd b n f tx ty its fls, cs => ∃ (ai : Option Addr) (ni ci : Nat) (af : Option Addr) (nf cf : Nat), cs = [.int .i64 kd, .bool b, .int .i64 n, .float .f64 f, .string tx, .string ty, .slice ai ni ci, .slice af nf cf] ∧
      AvI Q w its ai ni ∧ AvF Q w fls af nf ∧ ni ≤ ci ∧ nf ≤ cf ∧ (ai = none → ci = 0) ∧ (af = none → cf = 0) ∧ (Lit.int .i64 kd).wf = true ∧ (Lit.int .i64 n).wf = true ∧ tx.size ≤ maxLen ∧ ty.size ≤ maxLen ∧ ci ≤ maxLen ∧ cf ≤ maxLen
def AvI (Q : Nat → Prop) (w : World) : Vls → Option Addr → Nat → Prop
  | .nil, _, n => n = 0
  | .cons v r, a, n => ∃ (b off m : Nat) (cs : List Value), a = some ⟨b, off, none⟩ ∧ n = m + 1 ∧ ¬ Q b ∧ Row8 w b off cs ∧ AvC Q w v cs ∧ AvI Q w r (some ⟨b, off + 8, none⟩) m
def AvF (Q : Nat → Prop) (w : World) : Fls → Option Addr → Nat → Prop
  | .nil, _, n => n = 0
  | .cons nm v r, a, n => ∃ (b off m : Nat) (cs : List Value), a = some ⟨b, off, none⟩ ∧ n = m + 1 ∧ ¬ Q b ∧ w.cell? ⟨b, off, none⟩ = some (.string nm) ∧ nm.size ≤ maxLen ∧ Row8 w b (off + 1) cs ∧ AvC Q w v cs ∧ AvF Q w r (some ⟨b, off + 9, none⟩) m
end
mutual
theorem AvC.read {Q : Nat → Prop} {w : World} : ∀ (v : Vl) (cs : List Value), AvC Q w v cs → VlC w v cs
  | .mk kd b n f tx ty its fls, cs, h => by
    unfold AvC at h
    unfold VlC
    obtain ⟨ai, ni, ci, af, nf, cf, rfl, h1, h2, r⟩ := h
    exact ⟨ai, ni, ci, af, nf, cf, rfl, AvI.read its ai ni h1, AvF.read fls af nf h2, r⟩
theorem AvI.read {Q : Nat → Prop} {w : World} : ∀ (l : Vls) (a : Option Addr) (n : Nat), AvI Q w l a n → VlsAt w l a n
  | .nil, a, n, h => by unfold AvI at h; unfold VlsAt; exact h
  | .cons v r, a, n, h => by
    unfold AvI at h
    unfold VlsAt
    obtain ⟨b, off, m, cs, rfl, rfl, _, h1, h2, h3⟩ := h
    exact ⟨b, off, m, cs, rfl, rfl, h1, AvC.read v cs h2, AvI.read r _ m h3⟩
theorem AvF.read {Q : Nat → Prop} {w : World} : ∀ (l : Fls) (a : Option Addr) (n : Nat), AvF Q w l a n → FlsAt w l a n
  | .nil, a, n, h => by unfold AvF at h; unfold FlsAt; exact h
  | .cons nm v r, a, n, h => by
    unfold AvF at h
    unfold FlsAt
    obtain ⟨b, off, m, cs, rfl, rfl, _, h0, hz, h1, h2, h3⟩ := h
    exact ⟨b, off, m, cs, rfl, rfl, h0, hz, h1, AvC.read v cs h2, AvF.read r _ m h3⟩
end
theorem AvC.cells {Q : Nat → Prop} {w : World} {v : Vl} {cs : List Value} (h : AvC Q w v cs) : cs.length = 8 := (AvC.read v cs h).cells
theorem Row8.lt {w : World} {b off : Nat} {cs : List Value} (h : Row8 w b off cs) (h8 : cs.length = 8) : b < w.heap.size := by
  obtain ⟨a, b', c, d, e, f, g, i, rfl⟩ := list_eight h8
  exact World.block_lt_of_cell? w _ (h 0 a rfl)
mutual
/-- what is read so is read so in every world that agrees outside Q' -/
theorem AvC.agree {Q Q' : Nat → Prop} {w W : World} (hq : ∀ b, b < w.heap.size → ¬ Q b → ¬ Q' b) (ha : ∀ b j, b < w.heap.size → ¬ Q b → W.cell? ⟨b, j, none⟩ = w.cell? ⟨b, j, none⟩) : ∀ (v : Vl) (cs : List Value), AvC Q w v cs → AvC Q' W v cs
  | .mk kd b n f tx ty its fls, cs, h => by
    unfold AvC at h ⊢
    obtain ⟨ai, ni, ci, af, nf, cf, rfl, h1, h2, r⟩ := h
    exact ⟨ai, ni, ci, af, nf, cf, rfl, AvI.agree hq ha its ai ni h1, AvF.agree hq ha fls af nf h2, r⟩
theorem AvI.agree {Q Q' : Nat → Prop} {w W : World} (hq : ∀ b, b < w.heap.size → ¬ Q b → ¬ Q' b) (ha : ∀ b j, b < w.heap.size → ¬ Q b → W.cell? ⟨b, j, none⟩ = w.cell? ⟨b, j, none⟩) : ∀ (l : Vls) (a : Option Addr) (n : Nat), AvI Q w l a n → AvI Q' W l a n
  | .nil, a, n, h => by unfold AvI at h ⊢; exact h
  | .cons v r, a, n, h => by
    unfold AvI at h ⊢
    obtain ⟨b, off, m, cs, rfl, rfl, hb, h1, h2, h3⟩ := h
    have hl := Row8.lt h1 h2.cells
    exact ⟨b, off, m, cs, rfl, rfl, hq b hl hb, fun i u hu => (ha b _ hl hb).trans (h1 i u hu), AvC.agree hq ha v cs h2, AvI.agree hq ha r _ m h3⟩
theorem AvF.agree {Q Q' : Nat → Prop} {w W : World} (hq : ∀ b, b < w.heap.size → ¬ Q b → ¬ Q' b) (ha : ∀ b j, b < w.heap.size → ¬ Q b → W.cell? ⟨b, j, none⟩ = w.cell? ⟨b, j, none⟩) : ∀ (l : Fls) (a : Option Addr) (n : Nat), AvF Q w l a n → AvF Q' W l a n
  | .nil, a, n, h => by unfold AvF at h ⊢; exact h
  | .cons nm v r, a, n, h => by
    unfold AvF at h ⊢
    obtain ⟨b, off, m, cs, rfl, rfl, hb, h0, hz, h1, h2, h3⟩ := h
    have hl := Row8.lt h1 h2.cells
    exact ⟨b, off, m, cs, rfl, rfl, hq b hl hb, (ha b _ hl hb).trans h0, hz, fun i u hu => (ha b _ hl hb).trans (h1 i u hu), AvC.agree hq ha v cs h2, AvF.agree hq ha r _ m h3⟩
end
mutual
theorem AvC.of {w : World} : ∀ (v : Vl) (cs : List Value), VlC w v cs → AvC (fun _ => False) w v cs
  | .mk kd b n f tx ty its fls, cs, h => by
    unfold VlC at h
    unfold AvC
    obtain ⟨ai, ni, ci, af, nf, cf, rfl, h1, h2, r⟩ := h
    exact ⟨ai, ni, ci, af, nf, cf, rfl, AvI.of its ai ni h1, AvF.of fls af nf h2, r⟩
theorem AvI.of {w : World} : ∀ (l : Vls) (a : Option Addr) (n : Nat), VlsAt w l a n → AvI (fun _ => False) w l a n
  | .nil, a, n, h => by unfold VlsAt at h; unfold AvI; exact h
  | .cons v r, a, n, h => by
    unfold VlsAt at h
    unfold AvI
    obtain ⟨b, off, m, cs, rfl, rfl, h1, h2, h3⟩ := h
    exact ⟨b, off, m, cs, rfl, rfl, fun h => h, h1, AvC.of v cs h2, AvI.of r _ m h3⟩
theorem AvF.of {w : World} : ∀ (l : Fls) (a : Option Addr) (n : Nat), FlsAt w l a n → AvF (fun _ => False) w l a n
  | .nil, a, n, h => by unfold FlsAt at h; unfold AvF; exact h
  | .cons nm v r, a, n, h => by
    unfold FlsAt at h
    unfold AvF
    obtain ⟨b, off, m, cs, rfl, rfl, h0, hz, h1, h2, h3⟩ := h
    exact ⟨b, off, m, cs, rfl, rfl, fun h => h, h0, hz, h1, AvC.of v cs h2, AvF.of r _ m h3⟩
end
/-- in a later world -/
theorem AvC.below {Q : Nat → Prop} {w W : World} {v : Vl} {cs : List Value} (h : AvC Q w v cs) (hb : Below w.heap.size w W) : AvC Q W v cs := AvC.agree (fun _ _ h => h) (fun b j hl _ => hb.cell (p := ⟨b, j, none⟩) hl) v cs h
/-- the i-th value of a list -/
theorem AvI.get {Q : Nat → Prop} {w : World} : ∀ (l : Vls) (a : Option Addr) (n : Nat), AvI Q w l a n → ∀ i, i < n → ∃ (b off : Nat) (v : Vl) (cs : List Value), a = some ⟨b, off, none⟩ ∧ l.list[i]? = some v ∧ ¬ Q b ∧ Row8 w b (off + i * 8) cs ∧ AvC Q w v cs
  | .nil, a, n, h, i, hi => by unfold AvI at h; omega
  | .cons v r, a, n, h, i, hi => by
    unfold AvI at h
    obtain ⟨b, off, m, cs, rfl, rfl, hq, h1, h2, h3⟩ := h
    match i with
    | 0 => exact ⟨b, off, v, cs, rfl, rfl, hq, by simpa using h1, h2⟩
    | i + 1 =>
      obtain ⟨b', off', v', cs', e, g, q, r1, r2⟩ := AvI.get r _ m h3 i (by omega)
      simp only [Option.some.injEq, Addr.mk.injEq, and_true] at e
      obtain ⟨rfl, rfl⟩ := e
      exact ⟨b, off, v', cs', rfl, by simpa [Vls.list] using g, hq, by rw [show off + (i + 1) * 8 = off + 8 + i * 8 by omega]; exact r1, r2⟩
theorem AvF.get {Q : Nat → Prop} {w : World} : ∀ (l : Fls) (a : Option Addr) (n : Nat), AvF Q w l a n → ∀ i, i < n → ∃ (b off : Nat) (nm : ByteArray) (v : Vl) (cs : List Value), a = some ⟨b, off, none⟩ ∧ l.list[i]? = some (nm, v) ∧ ¬ Q b ∧ w.cell? ⟨b, off + i * 9, none⟩ = some (.string nm) ∧ nm.size ≤ maxLen ∧ Row8 w b (off + i * 9 + 1) cs ∧ AvC Q w v cs
  | .nil, a, n, h, i, hi => by unfold AvF at h; omega
  | .cons nm v r, a, n, h, i, hi => by
    unfold AvF at h
    obtain ⟨b, off, m, cs, rfl, rfl, hq, h0, hz, h1, h2, h3⟩ := h
    match i with
    | 0 => exact ⟨b, off, nm, v, cs, rfl, rfl, hq, by simpa using h0, hz, by simpa using h1, h2⟩
    | i + 1 =>
      obtain ⟨b', off', nm', v', cs', e, g, q, r0, rz, r1, r2⟩ := AvF.get r _ m h3 i (by omega)
      simp only [Option.some.injEq, Addr.mk.injEq, and_true] at e
      obtain ⟨rfl, rfl⟩ := e
      exact ⟨b, off, nm', v', cs', rfl, by simpa [Fls.list] using g, hq, by rw [show off + (i + 1) * 9 = off + 9 + i * 9 by omega]; exact r0, rz, by rw [show off + (i + 1) * 9 + 1 = off + 9 + i * 9 + 1 by omega]; exact r1, r2⟩
theorem AvI.mk {Q : Nat → Prop} {w : World} {p : Nat} (hp : ¬ Q p) : ∀ (l : List Vl) (off : Nat), (∀ i v, l[i]? = some v → ∃ cs, Row8 w p (off + i * 8) cs ∧ AvC Q w v cs) → AvI Q w (Vls.of l) (some ⟨p, off, none⟩) l.length
  | [], off, h => by simp only [Vls.of]; unfold AvI; rfl
  | v :: r, off, h => by
    simp only [Vls.of]
    unfold AvI
    obtain ⟨cs, h1, h2⟩ := h 0 v rfl
    exact ⟨p, off, r.length, cs, rfl, rfl, hp, by simpa using h1, h2, AvI.mk hp r (off + 8) (fun i u hu => by
      obtain ⟨ds, g1, g2⟩ := h (i + 1) u (by simpa using hu)
      exact ⟨ds, by rw [show off + 8 + i * 8 = off + (i + 1) * 8 by omega]; exact g1, g2⟩)⟩
theorem AvF.mk {Q : Nat → Prop} {w : World} {p : Nat} (hp : ¬ Q p) : ∀ (l : List (ByteArray × Vl)) (off : Nat), (∀ i q, l[i]? = some q → ∃ cs, w.cell? ⟨p, off + i * 9, none⟩ = some (.string q.1) ∧ q.1.size ≤ maxLen ∧ Row8 w p (off + i * 9 + 1) cs ∧ AvC Q w q.2 cs) → AvF Q w (Fls.of l) (some ⟨p, off, none⟩) l.length
  | [], off, h => by simp only [Fls.of]; unfold AvF; rfl
  | v :: r, off, h => by
    simp only [Fls.of]
    unfold AvF
    obtain ⟨cs, h0, hz, h1, h2⟩ := h 0 v rfl
    exact ⟨p, off, r.length, cs, rfl, rfl, hp, by simpa using h0, hz, by simpa using h1, h2, AvF.mk hp r (off + 9) (fun i u hu => by
      obtain ⟨ds, g0, gz, g1, g2⟩ := h (i + 1) u (by simpa using hu)
      exact ⟨ds, by rw [show off + 9 + i * 9 = off + (i + 1) * 9 by omega]; exact g0, gz, by rw [show off + 9 + i * 9 + 1 = off + (i + 1) * 9 + 1 by omega]; exact g1, g2⟩)⟩
end Go.Proofs.YtechaplindbfoaaGreatDoor.og
namespace Go.Proofs.YtechaplindbfoaaGreatDoor.vl
open Go.ChangeShapes Go.WideShapes Go.ChangeAt Go.RowKit
open stp (St Pth St3)
set_option linter.unusedVariables false
set_option linter.unusedSimpArgs false
/-- the number of the child to which a step leads -/
def chI : Vl → St → Option Nat
  | .mk kd b n f tx ty its fls, s => if s.it = true then (if kd = 5 ∧ 0 ≤ s.ix ∧ s.ix < its.list.length then some s.ix.toNat else none) else (if kd = 6 then fls.list.findIdx? (fun q => decide (q.1 = s.nm)) else none)
end Go.Proofs.YtechaplindbfoaaGreatDoor.vl
namespace Go.Proofs.YtechaplindbfoaaGreatDoor.vl
open Go.ChangeShapes Go.WideShapes Go.ChangeAt Go.RowKit
open stp (St Pth St3)
set_option linter.unusedVariables false
set_option linter.unusedSimpArgs false
/-- where the child number i of a value with these cells lies -/
def Loc (cs : List Value) (s : St) (i b o : Nat) : Prop :=
  ∃ p off n c, if s.it = true then cs[6]? = some (.slice (some ⟨p, off, none⟩) n c) ∧ b = p ∧ o = off + i * 8 else cs[7]? = some (.slice (some ⟨p, off, none⟩) n c) ∧ b = p ∧ o = off + i * 9 + 1
def getS : Vl → St → Option Vl
  | .mk kd b n f tx ty its fls, s => match chI (.mk kd b n f tx ty its fls) s with
    | none => none
    | some i => if s.it = true then its.list[i]? else (fls.list[i]?).map (·.2)
theorem chI_mk (kd : Int) (b : Bool) (n : Int) (f : Nat) (tx ty : ByteArray) (its : Vls) (fls : Fls) (s : St) : chI (.mk kd b n f tx ty its fls) s = if s.it = true then (if kd = 5 ∧ 0 ≤ s.ix ∧ s.ix < its.list.length then some s.ix.toNat else none) else (if kd = 6 then fls.list.findIdx? (fun q => decide (q.1 = s.nm)) else none) := rfl
theorem findIdx_get {α : Type} {f : α → Bool} {l : List α} {i : Nat} (h : l.findIdx? f = some i) : ∃ x, l[i]? = some x ∧ f x = true := by
  rw [List.findIdx?_eq_some_iff_getElem] at h
  obtain ⟨hi, hx, _⟩ := h
  exact ⟨l[i], by simp [hi], hx⟩
end Go.Proofs.YtechaplindbfoaaGreatDoor.vl
namespace Go.Proofs.YtechaplindbfoaaGreatDoor.vl
open Go.ChangeShapes Go.WideShapes Go.ChangeAt Go.RowKit
open stp (St Pth St3)
set_option linter.unusedVariables false
set_option linter.unusedSimpArgs false
theorem Small.getS {v u : Vl} {s : St} (hv : Small v) (h : getS v s = some u) : Small u := by
  obtain ⟨kd, bb, ni, f, tx, ty, its, fls⟩ := v
  unfold Small at hv
  simp only [vl.getS] at h
  cases hc : chI (.mk kd bb ni f tx ty its fls) s with
  | none => rw [hc] at h; cases h
  | some i =>
    rw [hc] at h
    simp only at h
    by_cases ht : s.it = true
    · rw [if_pos ht] at h
      exact hv.2.2.2.1.all u (List.mem_of_getElem? h)
    · rw [if_neg ht, Option.map_eq_some_iff] at h
      obtain ⟨q, hq, rfl⟩ := h
      exact hv.2.2.2.2.all q (List.mem_of_getElem? hq)
end Go.Proofs.YtechaplindbfoaaGreatDoor.vl
namespace Go.Proofs.YtechaplindbfoaaGreatDoor.vl
open Go.ChangeShapes Go.WideShapes Go.ChangeAt Go.RowKit
open stp (St Pth St3)
set_option linter.unusedVariables false
set_option linter.unusedSimpArgs false
/-- the child number i is another value -/
def setS : Vl → St → Nat → Vl → Vl
  | .mk kd b n f tx ty its fls, s, i, x => if s.it = true then .mk kd b n f tx ty (Vls.of (its.list.set i x)) fls else .mk kd b n f tx ty its (Fls.of (fls.list.modify i fun q => (q.1, x)))
theorem OwsIn.keepR {w w' : World} : ∀ (l : Vls) (p off n : Nat) (G : List Nat), Agree G w w' → (∀ o, off ≤ o → o < off + n * 8 → w'.cell? ⟨p, o, none⟩ = w.cell? ⟨p, o, none⟩) → OwsIn w l p off n G → OwsIn w' l p off n G
  | .nil, p, off, n, G, ha, hc, h => by unfold OwsIn at h ⊢; exact h
  | .cons v r, p, off, n, G, ha, hc, h => by
    unfold OwsIn at h ⊢
    obtain ⟨m, cs, G1, G2, rfl, h1, h2, h3, rfl⟩ := h
    have h8 := (OwC.read v cs G1 h2).cells
    exact ⟨m, cs, G1, G2, rfl, fun i u hu => (hc (off + i) (by omega) (by have := (List.getElem?_eq_some_iff.1 hu).1; omega)).trans (h1 i u hu), OwC.agree v cs G1 ha.left h2, OwsIn.keepR r p _ m G2 ha.right (fun o h0 ho => hc o (by omega) (by omega)) h3, rfl⟩
theorem OwfIn.keepR {w w' : World} : ∀ (l : Fls) (p off n : Nat) (G : List Nat), Agree G w w' → (∀ o, off ≤ o → o < off + n * 9 → w'.cell? ⟨p, o, none⟩ = w.cell? ⟨p, o, none⟩) → OwfIn w l p off n G → OwfIn w' l p off n G
  | .nil, p, off, n, G, ha, hc, h => by unfold OwfIn at h ⊢; exact h
  | .cons nm v r, p, off, n, G, ha, hc, h => by
    unfold OwfIn at h ⊢
    obtain ⟨m, cs, G1, G2, rfl, h0, hz, h1, h2, h3, rfl⟩ := h
    have h8 := (OwC.read v cs G1 h2).cells
    exact ⟨m, cs, G1, G2, rfl, (hc off (by omega) (by omega)).trans h0, hz, fun i u hu => (hc (off + 1 + i) (by omega) (by have := (List.getElem?_eq_some_iff.1 hu).1; omega)).trans (h1 i u hu), OwC.agree v cs G1 ha.left h2, OwfIn.keepR r p _ m G2 ha.right (fun o h0 ho => hc o (by omega) (by omega)) h3, rfl⟩
/-- one item of a list that is owned, and the list around it -/
theorem OwsIn.hole {w : World} : ∀ (l : Vls) (p off n : Nat) (G : List Nat), OwsIn w l p off n G → G.Nodup → ∀ i, i < n → ∃ u us Gi Gr, l.list[i]? = some u ∧ Row8 w p (off + i * 8) us ∧ OwC w u us Gi ∧ Gi.Nodup ∧ (∀ c ∈ Gi, c ∈ G ∧ c ∉ Gr) ∧ (∀ c ∈ Gr, c ∈ G) ∧
    ∀ w' x ds, Agree Gr w w' → (∀ j, (j < off + i * 8 ∨ off + i * 8 + 8 ≤ j) → w'.cell? ⟨p, j, none⟩ = w.cell? ⟨p, j, none⟩) → Row8 w' p (off + i * 8) ds → VlC w' x ds → VlsAt w' (Vls.of (l.list.set i x)) (some ⟨p, off, none⟩) n
  | .nil, p, off, n, G, h, hn, i, hi => by unfold OwsIn at h; omega
  | .cons v r, p, off, n, G, h, hn, i, hi => by
    unfold OwsIn at h
    obtain ⟨m, cs, G1, G2, rfl, h1, h2, h3, rfl⟩ := h
    rw [List.nodup_append] at hn
    obtain ⟨n1, n2, n3⟩ := hn
    match i with
    | 0 =>
      refine ⟨v, cs, G1, G2, rfl, by simpa using h1, h2, n1, fun c hc => ⟨List.mem_append_left _ hc, fun hc' => n3 c hc c hc' rfl⟩, fun c hc => List.mem_append_right _ hc, ?_⟩
      intro w' x ds ha hc hr hx
      simp only [Vls.list, List.set_cons_zero, Vls.of]
      unfold VlsAt
      refine ⟨p, off, m, ds, rfl, rfl, by simpa using hr, hx, ?_⟩
      rw [Vls.of_list]
      exact OwsIn.read _ _ _ _ _ (OwsIn.keepR r p (off + 8) m G2 ha (fun o h0 _ => hc o (.inr (by omega))) h3)
    | i + 1 =>
      obtain ⟨u, us, Gi, Gr, g1, g2, g3, g4, g5, g6, g7⟩ := OwsIn.hole r p (off + 8) m G2 h3 n2 i (by omega)
      rw [show off + 8 + i * 8 = off + (i + 1) * 8 by omega] at g2 g7
      refine ⟨u, us, Gi, G1 ++ Gr, by simpa [Vls.list] using g1, g2, g3, g4, fun c hc => ⟨List.mem_append_right _ (g5 c hc).1, fun hc' => ?_⟩, fun c hc => ?_, ?_⟩
      · rcases List.mem_append.1 hc' with h | h
        · exact n3 c h c (g5 c hc).1 rfl
        · exact (g5 c hc).2 h
      · rcases List.mem_append.1 hc with h | h
        · exact List.mem_append_left _ h
        · exact List.mem_append_right _ (g6 c h)
      · intro w' x ds ha hc hr hx
        simp only [Vls.list, List.set_cons_succ, Vls.of]
        unfold VlsAt
        have h8 := (OwC.read v cs G1 h2).cells
        refine ⟨p, off, m, cs, rfl, rfl, fun j y hy => (hc (off + j) (.inl (by have := (List.getElem?_eq_some_iff.1 hy).1; omega))).trans (h1 j y hy), OwC.read _ _ _ (OwC.agree v cs G1 ha.left h2), g7 w' x ds ha.right hc hr hx⟩
theorem OwfIn.hole {w : World} : ∀ (l : Fls) (p off n : Nat) (G : List Nat), OwfIn w l p off n G → G.Nodup → ∀ i, i < n → ∃ nm u us Gi Gr, l.list[i]? = some (nm, u) ∧ Row8 w p (off + i * 9 + 1) us ∧ OwC w u us Gi ∧ Gi.Nodup ∧ (∀ c ∈ Gi, c ∈ G ∧ c ∉ Gr) ∧ (∀ c ∈ Gr, c ∈ G) ∧
    ∀ w' x ds, Agree Gr w w' → (∀ j, (j < off + i * 9 + 1 ∨ off + i * 9 + 1 + 8 ≤ j) → w'.cell? ⟨p, j, none⟩ = w.cell? ⟨p, j, none⟩) → Row8 w' p (off + i * 9 + 1) ds → VlC w' x ds → FlsAt w' (Fls.of (l.list.modify i fun q => (q.1, x))) (some ⟨p, off, none⟩) n
  | .nil, p, off, n, G, h, hn, i, hi => by unfold OwfIn at h; omega
  | .cons nm v r, p, off, n, G, h, hn, i, hi => by
    unfold OwfIn at h
    obtain ⟨m, cs, G1, G2, rfl, h0, hz, h1, h2, h3, rfl⟩ := h
    rw [List.nodup_append] at hn
    obtain ⟨n1, n2, n3⟩ := hn
    match i with
    | 0 =>
      refine ⟨nm, v, cs, G1, G2, rfl, by simpa using h1, h2, n1, fun c hc => ⟨List.mem_append_left _ hc, fun hc' => n3 c hc c hc' rfl⟩, fun c hc => List.mem_append_right _ hc, ?_⟩
      intro w' x ds ha hc hr hx
      simp only [Fls.list, List.modify_zero_cons, Fls.of]
      unfold FlsAt
      refine ⟨p, off, m, ds, rfl, rfl, (hc off (.inl (by omega))).trans h0, hz, by simpa using hr, hx, ?_⟩
      rw [Fls.of_list]
      exact OwfIn.read _ _ _ _ _ (OwfIn.keepR r p (off + 9) m G2 ha (fun o h0 _ => hc o (.inr (by omega))) h3)
    | i + 1 =>
      obtain ⟨nm', u, us, Gi, Gr, g1, g2, g3, g4, g5, g6, g7⟩ := OwfIn.hole r p (off + 9) m G2 h3 n2 i (by omega)
      rw [show off + 9 + i * 9 + 1 = off + (i + 1) * 9 + 1 by omega] at g2 g7
      refine ⟨nm', u, us, Gi, G1 ++ Gr, by simpa [Fls.list] using g1, g2, g3, g4, fun c hc => ⟨List.mem_append_right _ (g5 c hc).1, fun hc' => ?_⟩, fun c hc => ?_, ?_⟩
      · rcases List.mem_append.1 hc' with h | h
        · exact n3 c h c (g5 c hc).1 rfl
        · exact (g5 c hc).2 h
      · rcases List.mem_append.1 hc with h | h
        · exact List.mem_append_left _ h
        · exact List.mem_append_right _ (g6 c h)
      · intro w' x ds ha hc hr hx
        simp only [Fls.list, List.modify_succ_cons, Fls.of]
        unfold FlsAt
        have h8 := (OwC.read v cs G1 h2).cells
        refine ⟨p, off, m, cs, rfl, rfl, (hc off (.inl (by omega))).trans h0, hz, fun j y hy => (hc (off + 1 + j) (.inl (by have := (List.getElem?_eq_some_iff.1 hy).1; omega))).trans (h1 j y hy), OwC.read _ _ _ (OwC.agree v cs G1 ha.left h2), g7 w' x ds ha.right hc hr hx⟩
end Go.Proofs.YtechaplindbfoaaGreatDoor.vl
namespace Go.Proofs.YtechaplindbfoaaGreatDoor.vl
open Go.ChangeShapes Go.WideShapes Go.ChangeAt Go.RowKit
open stp (St Pth St3)
set_option linter.unusedVariables false
set_option linter.unusedSimpArgs false
/-- two worlds that agree on these blocks but for eight cells -/
def AgreeBut (F : List Nat) (b o : Nat) (w w' : World) : Prop := ∀ c ∈ F, ∀ j, (c ≠ b ∨ j < o ∨ o + 8 ≤ j) → w'.cell? ⟨c, j, none⟩ = w.cell? ⟨c, j, none⟩
theorem AgreeBut.agree {F G : List Nat} {b o : Nat} {w w' : World} (h : AgreeBut F b o w w') (hs : ∀ c ∈ G, c ∈ F) (hb : b ∉ G) : Agree G w w' := fun c hc j => h c (hs c hc) j (.inl fun e => hb (e ▸ hc))
/-- one child of a value that is owned, and the value around it -/
theorem OwC.hole {w : World} {v : Vl} {cs : List Value} {F : List Nat} {s : St} {i b o : Nat} (h : OwC w v cs F) (hn : F.Nodup) (hi : chI v s = some i) (hl : Loc cs s i b o) :
    ∃ u us Fu Gr, getS v s = some u ∧ Row8 w b o us ∧ OwC w u us Fu ∧ Fu.Nodup ∧ (∀ c ∈ Fu, c ∈ F ∧ c ∉ Gr) ∧ (∀ c ∈ Gr, c ∈ F) ∧ b ∈ Gr ∧ ∀ w' x ds, AgreeBut Gr b o w w' → Row8 w' b o ds → VlC w' x ds → VlC w' (setS v s i x) cs := by
  obtain ⟨kd, bb, ni, f, tx, ty, its, fls⟩ := v
  have hg : getS (.mk kd bb ni f tx ty its fls) s = if s.it = true then its.list[i]? else (fls.list[i]?).map (·.2) := by simp only [getS, hi]
  have hset : ∀ x, setS (.mk kd bb ni f tx ty its fls) s i x = if s.it = true then .mk kd bb ni f tx ty (Vls.of (its.list.set i x)) fls else .mk kd bb ni f tx ty its (Fls.of (fls.list.modify i fun q => (q.1, x))) := fun x => rfl
  rw [chI_mk] at hi
  unfold OwC at h
  obtain ⟨ai, nI, ci, af, nf, cf, Fi, Ff, rfl, hI, hF, hni, hnf, hai, haf, hk1, hk2, hk3, hk4, hci, hcf, rfl⟩ := h
  rw [List.nodup_append] at hn
  obtain ⟨n1, n2, n3⟩ := hn
  obtain ⟨p, off, n, c, hl⟩ := hl
  by_cases ht : s.it = true
  · rw [if_pos ht] at hi hl hg
    obtain ⟨h6, rfl, rfl⟩ := hl
    simp at h6
    obtain ⟨rfl, rfl, rfl⟩ := h6
    by_cases hc : kd = 5 ∧ 0 ≤ s.ix ∧ s.ix < its.list.length
    · rw [if_pos hc] at hi
      obtain rfl := Option.some.inj hi
      rcases hI with ⟨h, _⟩ | ⟨p', G, e, rfl, hI⟩
      · cases h
      · simp only [Option.some.injEq, Addr.mk.injEq, and_true] at e
        obtain ⟨rfl, rfl⟩ := e
        have hlen := VlsAt.len its _ _ (OwsIn.read _ _ _ _ _ hI)
        rw [List.nodup_cons] at n1
        obtain ⟨u, us, Gi, Gr, g1, g2, g3, g4, g5, g6, g7⟩ := OwsIn.hole its b 0 nI G hI n1.2 s.ix.toNat (by omega)
        refine ⟨u, us, Gi, b :: (Gr ++ Ff), hg.trans g1, g2, g3, g4, fun x hx => ⟨?_, ?_⟩, fun x hx => ?_, List.mem_cons_self .., ?_⟩
        · exact List.mem_append_left _ (List.mem_cons_of_mem _ (g5 x hx).1)
        · intro hx'
          rcases List.mem_cons.1 hx' with rfl | hx'
          · exact n1.1 (g5 _ hx).1
          · rcases List.mem_append.1 hx' with hx' | hx'
            · exact (g5 x hx).2 hx'
            · exact n3 x (List.mem_cons_of_mem _ (g5 x hx).1) x hx' rfl
        · rcases List.mem_cons.1 hx with rfl | hx
          · exact List.mem_append_left _ (List.mem_cons_self ..)
          · rcases List.mem_append.1 hx with hx | hx
            · exact List.mem_append_left _ (List.mem_cons_of_mem _ (g6 x hx))
            · exact List.mem_append_right _ hx
        · intro w' x ds ha hr hx
          have a1 : Agree Gr w w' := ha.agree (fun c hc => List.mem_cons_of_mem _ (List.mem_append_left _ hc)) (fun h => n1.1 (g6 _ h))
          have a2 : Agree Ff w w' := ha.agree (fun c hc => List.mem_cons_of_mem _ (List.mem_append_right _ hc)) (fun h => n3 b (List.mem_cons_self ..) b h rfl)
          have hV := g7 w' x ds a1 (fun j hj => ha b (List.mem_cons_self ..) j (.inr hj)) hr hx
          rw [hset, if_pos ht]
          unfold VlC
          refine ⟨_, nI, ci, af, nf, cf, rfl, hV, ?_, hni, hnf, hai, haf, hk1, hk2, hk3, hk4, hci, hcf⟩
          rcases hF with ⟨rfl, rfl, rfl, _⟩ | ⟨p', G', rfl, rfl, hF⟩
          · unfold FlsAt; rfl
          · exact OwfIn.read _ _ _ _ _ (OwfIn.agree fls p' 0 nf G' a2 hF)
    · rw [if_neg hc] at hi
      cases hi
  · rw [if_neg ht] at hi hl hg
    obtain ⟨h7, rfl, rfl⟩ := hl
    simp at h7
    obtain ⟨rfl, rfl, rfl⟩ := h7
    by_cases hc : kd = 6
    · rw [if_pos hc] at hi
      rcases hF with ⟨h, _⟩ | ⟨p', G, e, rfl, hF⟩
      · cases h
      · simp only [Option.some.injEq, Addr.mk.injEq, and_true] at e
        obtain ⟨rfl, rfl⟩ := e
        have hlen := FlsAt.len fls _ _ (OwfIn.read _ _ _ _ _ hF)
        rw [List.nodup_cons] at n2
        obtain ⟨q, hq, _⟩ := findIdx_get hi
        obtain ⟨nm, u, us, Gi, Gr, g1, g2, g3, g4, g5, g6, g7⟩ := OwfIn.hole fls b 0 nf G hF n2.2 i (by rw [← hlen]; exact (List.getElem?_eq_some_iff.1 hq).1)
        refine ⟨u, us, Gi, b :: (Gr ++ Fi), hg.trans (by rw [g1]; rfl), g2, g3, g4, fun x hx => ⟨?_, ?_⟩, fun x hx => ?_, List.mem_cons_self .., ?_⟩
        · exact List.mem_append_right _ (List.mem_cons_of_mem _ (g5 x hx).1)
        · intro hx'
          rcases List.mem_cons.1 hx' with rfl | hx'
          · exact n2.1 (g5 _ hx).1
          · rcases List.mem_append.1 hx' with hx' | hx'
            · exact (g5 x hx).2 hx'
            · exact n3 x hx' x (List.mem_cons_of_mem _ (g5 x hx).1) rfl
        · rcases List.mem_cons.1 hx with rfl | hx
          · exact List.mem_append_right _ (List.mem_cons_self ..)
          · rcases List.mem_append.1 hx with hx | hx
            · exact List.mem_append_right _ (List.mem_cons_of_mem _ (g6 x hx))
            · exact List.mem_append_left _ hx
        · intro w' x ds ha hr hx
          have a1 : Agree Gr w w' := ha.agree (fun c hc => List.mem_cons_of_mem _ (List.mem_append_left _ hc)) (fun h => n2.1 (g6 _ h))
          have a2 : Agree Fi w w' := ha.agree (fun c hc => List.mem_cons_of_mem _ (List.mem_append_right _ hc)) (fun h => n3 b h b (List.mem_cons_self ..) rfl)
          have hV := g7 w' x ds a1 (fun j hj => ha b (List.mem_cons_self ..) j (.inr hj)) hr hx
          rw [hset, if_neg ht]
          unfold VlC
          refine ⟨ai, nI, ci, _, nf, cf, rfl, ?_, hV, hni, hnf, hai, haf, hk1, hk2, hk3, hk4, hci, hcf⟩
          rcases hI with ⟨rfl, rfl, rfl, _⟩ | ⟨p', G', rfl, rfl, hI⟩
          · unfold VlsAt; rfl
          · exact OwsIn.read _ _ _ _ _ (OwsIn.agree its p' 0 nI G' a2 hI)
    · rw [if_neg hc] at hi
      cases hi
end Go.Proofs.YtechaplindbfoaaGreatDoor.vl
namespace Go.Proofs.YtechaplindbfoaaGreatDoor.vl
open Go.ChangeShapes Go.WideShapes Go.ChangeAt Go.RowKit
open stp (St Pth St3)
set_option linter.unusedVariables false
set_option linter.unusedSimpArgs false
/-- a child put into a value of the call's own -/
theorem FrC.put {lo : Nat} {w w3 : World} {v : Vl} {cs : List Value} {F : List Nat} {s : St} {i b o : Nat} {x : Vl} {ds : List Value} (h : OwC w v cs F) (hn : F.Nodup) (hF : ∀ c ∈ F, lo ≤ c ∧ c < w3.heap.size) (hi : chI v s = some i) (hl : Loc cs s i b o)
    (ha : AgreeBut F b o w w3) (hr : Row8 w3 b o ds) (hx : FrC lo w3 x ds) : FrC lo w3 (setS v s i x) cs := by
  obtain ⟨u, us, Fu, Gr, g1, g2, g3, g4, g5, g6, g7, g8⟩ := h.hole hn hi hl
  intro w' hw
  refine g8 w' x ds (fun c hc j hj => (hw c j (hF c (g6 c hc)).1 (hF c (g6 c hc)).2).trans (ha c (g6 c hc) j hj)) (fun j y hy => (hw b (o + j) (hF b (g6 b g7)).1 (hF b (g6 b g7)).2).trans (hr j y hy)) (hx w' hw)
end Go.Proofs.YtechaplindbfoaaGreatDoor.vl
namespace Go.Proofs.YtechaplindbfoaaGreatDoor.vl
open Go.ChangeShapes Go.WideShapes Go.ChangeAt Go.RowKit
open stp (St Pth St3)
set_option linter.unusedVariables false
set_option linter.unusedSimpArgs false
theorem wpO_build2 {P : Program} {o : Oper} {a : Act} {w w' : World} {K : Act → World → Prop} {Q : Exit → Act → World → Prop} (t : TypeId) (x y : Operand) (ho : o.op = .buildSlice t 2 #[(0, x), (1, y)]) (v u sl : Value) (hx : a.eval x = v) (hy : a.eval y = u) (hr : (Instr.buildSlice t 2 #[(0, v), (1, u)]).run P w = .ok sl w')
    (h : K (a.put o.dst sl) w') : o.wp P a w K Q := by
  unfold Oper.wp execOp
  simp only [ho, List.map_toArray, List.map_cons, List.map_nil, hx, hy, Sem.run_bind, hr, Result.andThen_ok, Sem.run_pure]
  exact h
end Go.Proofs.YtechaplindbfoaaGreatDoor.vl
