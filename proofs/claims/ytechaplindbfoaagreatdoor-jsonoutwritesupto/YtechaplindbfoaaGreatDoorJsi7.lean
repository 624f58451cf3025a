import Derived.Test.YtechaplindbfoaaGreatDoorJpa13
import Derived.Test.YtechaplindbfoaaGreatDoorJsi3
import Derived.WalkKit
import Derived.ProofKit
import Derived.OpenShut
import Derived.ShutString
import Derived.Below
import Derived.SizedLaws
import Derived.Deep.Strs
import Derived.Deep.MidRow
import Derived.Deep.WholeRow
import Derived.Lib.SliceRun
import Derived.Laws.OwnMore
import Derived.Outline
import Derived.Laws.Pointers
import Derived.Laws.Rows
import Derived.Deep.RegionHeld3
import Derived.OrdersHeld
import Derived.Laws.ResultCell
import GoSem.Core.Float
import Derived.Laws.Cover2
import Derived.Laws.FloatArith
import Derived.Lib.Bytealg
import Derived.Laws.Externs
import Derived.Laws.StructEq
import Derived.RegionCalls
import Derived.Deep.RegionLaw
import Derived.Deep.QuietTactic
import Derived.Deep.AppendLies
import Derived.RangeFuncNested
import Derived.RangeFuncBound
import Derived.RangeFuncCalls
import Derived.RangeFuncLeaves
import Derived.Shelf.Abstract
import Derived.Shelf.RegionOpen
import Derived.OwnWalkIn
import Derived.TacticsInMore
import Derived.LoopNIn
import Derived.LoopIn
import Derived.Lib.MinMax
import Derived.BigQuiet
import Derived.WalkSmall
import Derived.Laws.BytesArg
import Derived.WalkLawsBesides
import Derived.Laws.RangeAny
import Derived.Laws.IdiomStrings
import Derived.Maps.OwnSet
import Derived.Maps.Views
import Derived.StringKeys
namespace Go.Proofs.YtechaplindbfoaaGreatDoor.vl
open Go.ChangeShapes Go.WideShapes Go.ChangeAt Go.RowKit
open mem
set_option linter.unusedVariables false
def nanF (x : Nat) : Bool := decide (9218868437227405312 < x % 9223372036854775808)
theorem ordSelf (x : Nat) (h : x < 18446744073709551616) : (FloatKind.f64.format.order x x != some Ordering.eq) = nanF x ∧ (FloatKind.f64.format.order x x == some Ordering.eq) = !nanF x := by
  have key : (FloatKind.f64.format.order x x == some Ordering.eq) = !nanF x := by
    have hw := word_of x h
    obtain ⟨r, hr⟩ : ∃ r, r = x % 9223372036854775808 := ⟨_, rfl⟩
    obtain ⟨ng, hng⟩ : ∃ ng, ng = decide (9223372036854775808 ≤ x) := ⟨_, rfl⟩
    have hrl : r < 9223372036854775808 := by omega
    unfold nanF
    rw [← hr]
    rw [← hr, ← hng] at hw
    clear hr hng
    rw [← hw]
    show ((FloatKind.f64.decode _).order (FloatKind.f64.decode _) == some Ordering.eq) = _
    rcases Nat.lt_trichotomy r 9218868437227405312 with h1 | h1 | h1
    · rw [dec_fin ng r h1, order_fin, Int.compare_eq_eq.2 rfl, decide_eq_false (by omega)]; rfl
    · subst h1
      rw [dec_inf, decide_eq_false (by omega)]
      cases ng <;> rfl
    · obtain ⟨f, hf⟩ := dec_nan ng r h1 hrl
      rw [hf, decide_eq_true h1]; rfl
  refine ⟨?_, key⟩
  show (!(FloatKind.f64.format.order x x == some Ordering.eq)) = _
  rw [key]
  cases nanF x <;> rfl
end Go.Proofs.YtechaplindbfoaaGreatDoor.vl
namespace Go.Proofs.YtechaplindbfoaaGreatDoor.stp
open Go.ChangeShapes Go.WideShapes Go.ChangeAt Go.RowKit
set_option linter.unusedVariables false

theorem hide {p : Prop} (h : p) : Hid p := h
theorem unhide {p : Prop} (h : Hid p) : p := h
def c3 (x t : Int) : Int := if x < t then -1 else if t < x then 1 else 0
theorem c3_lt {x t : Int} (h : x < t) : c3 x t = -1 := by simp [c3, h]
theorem c3_gt {x t : Int} (h : t < x) : c3 x t = 1 := by simp [c3, h, show ¬ x < t by omega]
theorem c3_eq {x t : Int} (h : x = t) : c3 x t = 0 := by simp [c3, h]
/-- two texts, byte by byte -/
def cB (a b : ByteArray) : Int := Lib.compareBytes a.data.toList b.data.toList
theorem cmpL_tri : ∀ a b : List UInt8, (Lib.compareBytes a b = -1 ∧ Op.bytesLess a b = true ∧ a ≠ b) ∨ (Lib.compareBytes a b = 0 ∧ Op.bytesLess a b = false ∧ a = b) ∨ (Lib.compareBytes a b = 1 ∧ Op.bytesLess a b = false ∧ a ≠ b)
  | [], [] => by simp [Lib.compareBytes, Op.bytesLess]
  | [], _ :: _ => by simp [Lib.compareBytes, Op.bytesLess]
  | _ :: _, [] => by simp [Lib.compareBytes, Op.bytesLess]
  | x :: a, y :: b => by
    have ih := cmpL_tri a b
    by_cases h1 : x < y
    · left
      refine ⟨by simp [Lib.compareBytes, h1], by simp [Op.bytesLess, h1], ?_⟩
      intro e
      simp only [List.cons.injEq] at e
      rw [e.1] at h1
      exact UInt8.lt_irrefl _ h1
    · by_cases h2 : y < x
      · right; right
        have hne : x ≠ y := fun e => by rw [e] at h2; exact UInt8.lt_irrefl _ h2
        refine ⟨by simp [Lib.compareBytes, h1, h2], by simp [Op.bytesLess, h1, hne], ?_⟩
        intro e
        simp only [List.cons.injEq] at e
        exact hne e.1
      · have e : x = y := UInt8.le_antisymm (UInt8.not_lt.1 h2) (UInt8.not_lt.1 h1)
        subst e
        simpa [Lib.compareBytes, Op.bytesLess, UInt8.lt_irrefl] using ih
theorem toList_data (a : ByteArray) : a.toList = a.data.toList := Lib.toList_data a
theorem cB_tri (a b : ByteArray) : (cB a b = -1 ∧ Op.bytesLess a.toList b.toList = true ∧ a ≠ b) ∨ (cB a b = 0 ∧ Op.bytesLess a.toList b.toList = false ∧ a = b) ∨ (cB a b = 1 ∧ Op.bytesLess a.toList b.toList = false ∧ a ≠ b) := by
  rw [toList_data, toList_data]
  have hab : a = b ↔ a.data.toList = b.data.toList := by
    constructor
    · intro e; rw [e]
    · intro e
      obtain ⟨⟨x⟩⟩ := a
      obtain ⟨⟨y⟩⟩ := b
      simp at e
      rw [e]
  rcases cmpL_tri a.data.toList b.data.toList with ⟨h1, h2, h3⟩ | ⟨h1, h2, h3⟩ | ⟨h1, h2, h3⟩
  · exact .inl ⟨h1, h2, fun e => h3 (hab.1 e)⟩
  · exact .inr (.inl ⟨h1, h2, hab.2 h3⟩)
  · exact .inr (.inr ⟨h1, h2, fun e => h3 (hab.1 e)⟩)
/-- a step of a path -/
structure St where
  nm : ByteArray
  ix : Int
  it : Bool
/-- how two steps stand to each other -/
def cS (a b : St) : Int := if a.it = true then (if b.it = true then c3 a.ix b.ix else -1) else (if b.it = true then 1 else cB a.nm b.nm)
/-- a step's three cells -/
def St3 (w : World) (b o : Nat) (nm : ByteArray) (ix : Int) (it : Bool) : Prop := w.cell? ⟨b, o, none⟩ = some (.string nm) ∧ w.cell? ⟨b, o + 1, none⟩ = some (.int .i64 ix) ∧ w.cell? ⟨b, o + 2, none⟩ = some (.bool it)
theorem St3.below {w w' : World} {b o : Nat} {nm : ByteArray} {ix : Int} {it : Bool} (h : St3 w b o nm ix it) (hb : b < w.heap.size) (hB : Below w.heap.size w w') : St3 w' b o nm ix it :=
  ⟨(hB.cell (p := ⟨b, o, none⟩) hb).trans h.1, (hB.cell (p := ⟨b, o + 1, none⟩) hb).trans h.2.1, (hB.cell (p := ⟨b, o + 2, none⟩) hb).trans h.2.2⟩
end Go.Proofs.YtechaplindbfoaaGreatDoor.stp
namespace Go.Proofs.YtechaplindbfoaaGreatDoor.stp
open Go.ChangeShapes Go.WideShapes Go.ChangeAt Go.RowKit
set_option linter.unusedVariables false
/-- a path: a slice of steps that is read -/
structure Pth (w : World) (a : Option Addr) (n : Nat) (ss : List St) : Prop where
  len : ss.length = n
  at_ : n = 0 ∨ ∃ b off, a = some ⟨b, off, none⟩ ∧ b < w.heap.size ∧ ∀ i, i < n → ∃ s, ss[i]? = some s ∧ St3 w b (off + i * 3) s.nm s.ix s.it
theorem Pth.below {w w' : World} {a : Option Addr} {n : Nat} {ss : List St} (h : Pth w a n ss) (hb : Below w.heap.size w w') : Pth w' a n ss := by
  refine ⟨h.len, ?_⟩
  rcases h.at_ with h0 | ⟨b, off, ha, hlt, hc⟩
  · exact .inl h0
  · refine .inr ⟨b, off, ha, Nat.lt_of_lt_of_le hlt hb.size, fun i hi => ?_⟩
    obtain ⟨s, hs, k⟩ := hc i hi
    exact ⟨s, hs, k.below hlt hb⟩
end Go.Proofs.YtechaplindbfoaaGreatDoor.stp
namespace Go.Proofs.YtechaplindbfoaaGreatDoor.stp
open Go.ChangeShapes Go.WideShapes Go.ChangeAt Go.RowKit
set_option linter.unusedVariables false
theorem Pth.take {w : World} {a : Option Addr} {n m : Nat} {ss : List St} (h : Pth w a n ss) (hm : m ≤ n) : Pth w a m (ss.take m) := by
  refine ⟨by simp [h.len]; omega, ?_⟩
  rcases h.at_ with h0 | ⟨b, off, ha, hlt, hc⟩
  · exact .inl (by omega)
  · refine .inr ⟨b, off, ha, hlt, fun i hi => ?_⟩
    obtain ⟨s, hs, k⟩ := hc i (by omega)
    exact ⟨s, by rw [List.getElem?_take_of_lt hi]; exact hs, k⟩
end Go.Proofs.YtechaplindbfoaaGreatDoor.stp
namespace Go.Proofs.YtechaplindbfoaaGreatDoor.og
open Go.ChangeShapes Go.WideShapes Go.ChangeAt Go.RowKit
open vl hiding cB cFl cS cF cI cK cIt
open stp (c3 c3_lt c3_gt c3_eq cB cB_tri)
set_option linter.unusedVariables false
set_option linter.unusedSimpArgs false
/-- all that lay stays, draws are only added -/
def Gr (w w' : World) : Prop := Below w.heap.size w w' ∧ w.drawn ≤ w'.drawn
theorem Gr.refl (w : World) : Gr w w := ⟨Below.refl _ _, Nat.le_refl _⟩
theorem Gr.trans {a b c : World} (h : Gr a b) (k : Gr b c) : Gr a c := ⟨h.1.trans (k.1.mono h.1.size), Nat.le_trans h.2 k.2⟩
theorem Gr.alloc {a w : World} (h : Gr a w) (o : Obj) : Gr a (w.alloc o) := ⟨h.1.alloc h.1.size o, h.2⟩
theorem Gr.drew {a w : World} (h : Gr a w) : Gr a { w with drawn := w.drawn + 1 } := ⟨h.1.drew, Nat.le_succ_of_le h.2⟩
/-- the kind that counts -/
def kdOf (k : Int) : Int := if k < 0 ∨ 7 < k then 0 else k
def cBo (a b : Bool) : Int := if a = b then 0 else if b = true then -1 else 1
def sameF (a b : Nat) : Bool := (a == b) || (nanF a && nanF b)
def cmpF (a b : Nat) : Int := if nanF a = true then (if nanF b = true then 0 else -1) else if nanF b = true then 1 else if (FloatKind.f64.format.order a b == some Ordering.lt) = true then -1 else if (FloatKind.f64.format.order a b == some Ordering.gt) = true then 1 else 0
def sgn (a : Nat) : Bool := decide (9223372036854775808 ≤ a)
def cFl (a b : Nat) : Int := if sameF a b = true then 0 else if cmpF a b = 0 then cBo (sgn b) (sgn a) else cmpF a b
/-- element by element; the shorter one first -/
def lexG {α : Type} (f : α → α → Int) : List α → List α → Int
  | [], [] => 0
  | [], _ :: _ => -1
  | _ :: _, [] => 1
  | a :: l, b :: r => if f a b = 0 then lexG f l r else f a b
mutual
/-- the order of values -/
def ordV : Vl → Vl → Int
  | .mk kd b n f tx ty its fls, .mk kd' b' n' f' tx' ty' its' fls' =>
    if c3 (kdOf kd) (kdOf kd') = 0 then
      (if kdOf kd = 1 then cBo b b' else if kdOf kd = 2 then c3 n n' else if kdOf kd = 3 then cFl f f' else if kdOf kd = 4 then cB tx tx' else if kdOf kd = 5 then ordI its its' else if kdOf kd = 6 then ordF fls fls' else if kdOf kd = 7 then (if cB ty ty' = 0 then cB tx tx' else cB ty ty') else 0)
    else c3 (kdOf kd) (kdOf kd')
def ordI : Vls → Vls → Int
  | .nil, .nil => 0
  | .nil, .cons _ _ => -1
  | .cons _ _, .nil => 1
  | .cons v r, .cons u s => if ordV v u = 0 then ordI r s else ordV v u
def ordF : Fls → Fls → Int
  | .nil, .nil => 0
  | .nil, .cons _ _ _ => -1
  | .cons _ _ _, .nil => 1
  | .cons nm v r, .cons nm' u s => if (if cB nm nm' = 0 then ordV v u else cB nm nm') = 0 then ordF r s else (if cB nm nm' = 0 then ordV v u else cB nm nm')
end
/-- the order of members -/
def ordM (p q : ByteArray × Vl) : Int := if cB p.1 q.1 = 0 then ordV p.2 q.2 else cB p.1 q.1
theorem ordI_lex : ∀ a b : Vls, ordI a b = lexG ordV a.list b.list
  | .nil, .nil => by simp [ordI, Vls.list, lexG]
  | .nil, .cons _ _ => by simp [ordI, Vls.list, lexG]
  | .cons _ _, .nil => by simp [ordI, Vls.list, lexG]
  | .cons v r, .cons u s => by rw [ordI, ordI_lex r s]; rfl
theorem ordF_lex : ∀ a b : Fls, ordF a b = lexG ordM a.list b.list
  | .nil, .nil => by simp [ordF, Fls.list, lexG]
  | .nil, .cons _ _ _ => by simp [ordF, Fls.list, lexG]
  | .cons _ _ _, .nil => by simp [ordF, Fls.list, lexG]
  | .cons nm v r, .cons nm' u s => by rw [ordF, ordF_lex r s]; rfl
theorem sameF_self (f : Nat) : sameF f f = true := by simp [sameF]
theorem cB_self (a : ByteArray) : cB a a = 0 := by
  rcases cB_tri a a with ⟨_, _, h⟩ | ⟨h, _⟩ | ⟨_, _, h⟩
  · exact absurd rfl h
  · exact h
  · exact absurd rfl h
theorem lexG_self {α : Type} {f : α → α → Int} : ∀ l : List α, (∀ x ∈ l, f x x = 0) → lexG f l l = 0
  | [], _ => rfl
  | a :: l, h => by
    rw [lexG, if_pos (h a (List.mem_cons_self ..))]
    exact lexG_self l (fun x hx => h x (List.mem_cons_of_mem _ hx))
/-- a value is level with itself -/
theorem ordV_self : ∀ v : Vl, ordV v v = 0 := by
  refine Vl.all ?_
  intro kd b n f tx ty its fls hI hF
  rw [ordV, if_pos (c3_eq rfl), ordI_lex, ordF_lex, lexG_self its.list hI, lexG_self fls.list (fun q hq => by rw [ordM, cB_self, if_pos rfl]; exact hF q hq), cB_self, cB_self, c3_eq rfl]
  simp [cBo, cFl, sameF_self]
end Go.Proofs.YtechaplindbfoaaGreatDoor.og
namespace Go.Proofs.YtechaplindbfoaaGreatDoor.og
open Go.ChangeShapes Go.WideShapes Go.ChangeAt Go.RowKit
open vl hiding cB cFl cS cF cI cK cIt
open stp (c3 c3_lt c3_gt c3_eq cB cB_tri)
open mem (dec_fin dec_inf dec_nan word_of order_fin sv)
set_option linter.unusedVariables false
set_option linter.unusedSimpArgs false
/-- one of three answers -/
def Rg (s : Int) : Prop := s = -1 ∨ s = 0 ∨ s = 1
/-- how three elements stand to each other: one and two, two and three, one and three -/
def Tr (a b c : Int) : Prop := (a = 0 → c = b) ∧ (b = 0 → c = a) ∧ (a = b → c = a) ∧ (c = 0 → a = -b)
theorem Rg.c3 (x y : Int) : Rg (stp.c3 x y) := by unfold Rg stp.c3; split <;> (try split) <;> omega
theorem Tr.c3 (x y z : Int) : Tr (stp.c3 x y) (stp.c3 y z) (stp.c3 x z) := by
  unfold Tr stp.c3
  split <;> split <;> split <;> (try split) <;> (try split) <;> (try split) <;> omega
/-- two comparisons, one behind the other -/
def thn (a b : Int) : Int := if a = 0 then b else a
theorem Rg.thn {a b : Int} (h : Rg a) (k : Rg b) : Rg (og.thn a b) := by unfold og.thn; split <;> assumption
theorem Tr.thn {a b c a' b' c' : Int} (ra : Rg a) (rb : Rg b) (rc : Rg c) (h : Tr a b c) (k : Tr a' b' c') : Tr (og.thn a a') (og.thn b b') (og.thn c c') := by
  unfold Tr at h k ⊢
  unfold Rg at ra rb rc
  unfold og.thn
  rcases ra with rfl | rfl | rfl <;> rcases rb with rfl | rfl | rfl <;> rcases rc with rfl | rfl | rfl <;> simp at h ⊢ <;> first | exact k | omega
/-- as above, the second asked only where the first is level -/
theorem Tr.thn' {a b c a' b' c' : Int} (ra : Rg a) (rb : Rg b) (rc : Rg c) (ra' : Rg a') (rb' : Rg b') (rc' : Rg c') (h : Tr a b c) (k : a = 0 → b = 0 → Tr a' b' c') : Tr (og.thn a a') (og.thn b b') (og.thn c c') := by
  unfold Tr at h k ⊢
  unfold Rg at ra rb rc ra' rb' rc'
  unfold og.thn
  rcases ra with rfl | rfl | rfl <;> rcases rb with rfl | rfl | rfl <;> rcases rc with rfl | rfl | rfl <;> simp at h k ⊢ <;> first | exact k | omega
theorem lexG_cons {α : Type} (f : α → α → Int) (a b : α) (l r : List α) : lexG f (a :: l) (b :: r) = thn (f a b) (lexG f l r) := rfl
theorem Rg.lexG {α : Type} {f : α → α → Int} : ∀ (l r : List α), (∀ a ∈ l, ∀ b ∈ r, Rg (f a b)) → Rg (og.lexG f l r)
  | [], [], _ => .inr (.inl rfl)
  | [], _ :: _, _ => .inl rfl
  | _ :: _, [], _ => .inr (.inr rfl)
  | a :: l, b :: r, h => by
    rw [lexG_cons]
    exact Rg.thn (h a (List.mem_cons_self ..) b (List.mem_cons_self ..)) (Rg.lexG l r (fun x hx y hy => h x (List.mem_cons_of_mem _ hx) y (List.mem_cons_of_mem _ hy)))
theorem Tr.lexG {α : Type} {f : α → α → Int} : ∀ (l r s : List α), (∀ a b, (a ∈ l ∨ a ∈ r) → (b ∈ r ∨ b ∈ s) → Rg (f a b)) → (∀ a ∈ l, ∀ b ∈ r, ∀ c ∈ s, Tr (f a b) (f b c) (f a c)) → Tr (og.lexG f l r) (og.lexG f r s) (og.lexG f l s)
  | [], [], [], _, _ => by simp [og.lexG, Tr]
  | [], [], _ :: _, _, _ => by simp [og.lexG, Tr]
  | [], _ :: _, [], _, _ => by simp [og.lexG, Tr]
  | _ :: _, [], [], _, _ => by simp [og.lexG, Tr]
  | _ :: _, [], _ :: _, _, _ => by simp [og.lexG, Tr]
  | [], b :: r, c :: s, hR, h => by
    have e : Rg (og.lexG f (b :: r) (c :: s)) := Rg.lexG _ _ (fun x hx y hy => hR x y (.inr hx) (.inr hy))
    generalize og.lexG f (b :: r) (c :: s) = q at *
    show Tr (-1) q (-1)
    unfold Rg at e
    unfold Tr
    omega
  | a :: l, b :: r, [], hR, h => by
    have e : Rg (og.lexG f (a :: l) (b :: r)) := Rg.lexG _ _ (fun x hx y hy => hR x y (.inl hx) (.inl hy))
    generalize og.lexG f (a :: l) (b :: r) = q at *
    show Tr q 1 1
    unfold Rg at e
    unfold Tr
    omega
  | a :: l, b :: r, c :: s, hR, h => by
    rw [lexG_cons, lexG_cons, lexG_cons]
    have ma : a ∈ a :: l := List.mem_cons_self ..
    have mb : b ∈ b :: r := List.mem_cons_self ..
    have mc : c ∈ c :: s := List.mem_cons_self ..
    exact Tr.thn (hR a b (.inl ma) (.inl mb)) (hR b c (.inr mb) (.inr mc)) (hR a c (.inl ma) (.inr mc)) (h a ma b mb c mc)
      (Tr.lexG l r s (fun x y hx hy => hR x y (hx.imp (List.mem_cons_of_mem _) (List.mem_cons_of_mem _)) (hy.imp (List.mem_cons_of_mem _) (List.mem_cons_of_mem _))) (fun x hx y hy z hz => h x (List.mem_cons_of_mem _ hx) y (List.mem_cons_of_mem _ hy) z (List.mem_cons_of_mem _ hz)))
theorem cmpBytes_lex : ∀ a b : List UInt8, Lib.compareBytes a b = lexG (fun x y => c3 (x.toNat : Int) (y.toNat : Int)) a b
  | [], [] => by simp [Lib.compareBytes, lexG]
  | [], _ :: _ => by simp [Lib.compareBytes, lexG]
  | _ :: _, [] => by simp [Lib.compareBytes, lexG]
  | x :: a, y :: b => by
    rw [lexG_cons, ← cmpBytes_lex a b]
    unfold thn
    by_cases h1 : x < y
    · have h1' : x.toNat < y.toNat := UInt8.lt_iff_toNat_lt.1 h1
      have hc : c3 (x.toNat : Int) (y.toNat : Int) = -1 := c3_lt (by omega)
      simp [Lib.compareBytes, h1, hc]
    · by_cases h2 : y < x
      · have h2' : y.toNat < x.toNat := UInt8.lt_iff_toNat_lt.1 h2
        have hc : c3 (x.toNat : Int) (y.toNat : Int) = 1 := c3_gt (by omega)
        simp [Lib.compareBytes, h1, h2, hc]
      · have e : x = y := UInt8.le_antisymm (UInt8.not_lt.1 h2) (UInt8.not_lt.1 h1)
        subst e
        have hc : c3 (x.toNat : Int) (x.toNat : Int) = 0 := c3_eq rfl
        simp [Lib.compareBytes, h1, hc]
theorem Rg.cB (a b : ByteArray) : Rg (stp.cB a b) := by unfold stp.cB; rw [cmpBytes_lex]; exact Rg.lexG _ _ (fun _ _ _ _ => Rg.c3 _ _)
theorem Tr.cB (a b c : ByteArray) : Tr (stp.cB a b) (stp.cB b c) (stp.cB a c) := by unfold stp.cB; rw [cmpBytes_lex, cmpBytes_lex, cmpBytes_lex]; exact Tr.lexG _ _ _ (fun _ _ _ _ => Rg.c3 _ _) (fun _ _ _ _ _ _ => Tr.c3 _ _ _)
theorem Rg.cBo (a b : Bool) : Rg (og.cBo a b) := by cases a <;> cases b <;> simp [og.cBo, Rg]
theorem Tr.cBo (a b c : Bool) : Tr (og.cBo a b) (og.cBo b c) (og.cBo a c) := by cases a <;> cases b <;> cases c <;> simp [og.cBo, Tr]
/-- a float's place among all floats -/
def keyF (x : Nat) : Int := if nanF x = true then -18446744073709551616 else if 9223372036854775808 ≤ x then -((x % 9223372036854775808 : Nat) : Int) - 1 else ((x % 9223372036854775808 : Nat) : Int)
theorem ord_num (s t : Bool) (r q : Nat) (hr : r ≤ 9218868437227405312) (hq : q ≤ 9218868437227405312) : FloatKind.f64.format.order (Ieee.double.word s r) (Ieee.double.word t q) = some (compare (sv s (mem.vR r)) (sv t (mem.vR q))) := by
  show (FloatKind.f64.decode _).order (FloatKind.f64.decode _) = _
  rcases Nat.lt_or_eq_of_le hr with h1 | h1
  · rcases Nat.lt_or_eq_of_le hq with h2 | h2
    · rw [dec_fin s r h1, dec_fin t q h2, order_fin]; rfl
    · have hv : mem.vR r < mem.vR q := mem.vR_mono (by omega)
      subst h2
      rw [dec_fin s r h1, dec_inf]
      generalize mem.vR 9218868437227405312 = B at *
      generalize mem.vR r = A at *
      have : compare (sv s A) (sv t B) = if t = true then Ordering.gt else Ordering.lt := by
        cases t
        · simp only [Bool.false_eq_true, if_false]; rw [Int.compare_eq_lt]; cases s <;> simp [sv] <;> omega
        · simp only [if_true]; rw [Int.compare_eq_gt]; cases s <;> simp [sv] <;> omega
      rw [this]
      cases t <;> rfl
  · rcases Nat.lt_or_eq_of_le hq with h2 | h2
    · have hv : mem.vR q < mem.vR r := mem.vR_mono (by omega)
      subst h1
      rw [dec_fin t q h2, dec_inf]
      generalize mem.vR 9218868437227405312 = B at *
      generalize mem.vR q = A at *
      have : compare (sv s B) (sv t A) = if s = true then Ordering.lt else Ordering.gt := by
        cases s
        · simp only [Bool.false_eq_true, if_false]; rw [Int.compare_eq_gt]; cases t <;> simp [sv] <;> omega
        · simp only [if_true]; rw [Int.compare_eq_lt]; cases t <;> simp [sv] <;> omega
      rw [this]
      cases s <;> rfl
    · subst h1 h2
      rw [dec_inf, dec_inf]
      have hp : 0 < mem.vR 9218868437227405312 := Nat.lt_of_le_of_lt (Nat.zero_le _) (mem.vR_mono (a := 0) (by omega))
      generalize mem.vR 9218868437227405312 = B at *
      cases s <;> cases t
      · rw [Int.compare_eq_eq.2 rfl]; rfl
      · rw [show compare (sv false B) (sv true B) = Ordering.gt by rw [Int.compare_eq_gt]; simp [sv]; omega]; rfl
      · rw [show compare (sv true B) (sv false B) = Ordering.lt by rw [Int.compare_eq_lt]; simp [sv]; omega]; rfl
      · rw [Int.compare_eq_eq.2 rfl]; rfl
theorem cFl_key (a b : Nat) (ha : a < 18446744073709551616) (hb : b < 18446744073709551616) : cFl a b = c3 (keyF a) (keyF b) := by
  unfold cFl sameF cmpF keyF
  cases hA : nanF a <;> cases hB : nanF b
  · simp only [Bool.false_eq_true, if_false, Bool.and_false, Bool.false_and, Bool.or_false]
    have nA : a % 9223372036854775808 ≤ 9218868437227405312 := by unfold nanF at hA; simpa using hA
    have nB : b % 9223372036854775808 ≤ 9218868437227405312 := by unfold nanF at hB; simpa using hB
    have ho := ord_num (sgn a) (sgn b) _ _ nA nB
    unfold sgn at ho
    rw [word_of a ha, word_of b hb] at ho
    have vm : ∀ x y : Nat, x < y → mem.vR x < mem.vR y := fun x y h => mem.vR_mono h
    have vi : ∀ x y : Nat, x = y → mem.vR x = mem.vR y := fun x y h => by rw [h]
    have ea : ∃ r, a % 9223372036854775808 = r := ⟨_, rfl⟩
    have eb : ∃ q, b % 9223372036854775808 = q := ⟨_, rfl⟩
    obtain ⟨r, er⟩ := ea
    obtain ⟨q, eq⟩ := eb
    rw [er, eq] at ho
    rw [er, eq]
    rw [ho]
    by_cases hab : a = b
    · subst hab
      obtain rfl : r = q := er.symm.trans eq
      simp [c3]
    · have hab' : (a == b) = false := by simpa using hab
      rw [hab']
      simp only [Bool.false_eq_true, if_false]
      have z0 : mem.vR 0 = 0 := by simp [mem.vR, mem.mantR, mem.b52]
      have hz : ∀ x : Nat, 0 < x → 0 < mem.vR x := fun x hx => by have := vm 0 x hx; omega
      have key : compare (sv (decide (9223372036854775808 ≤ a)) (mem.vR r)) (sv (decide (9223372036854775808 ≤ b)) (mem.vR q)) = if r = 0 ∧ q = 0 then Ordering.eq else if (if 9223372036854775808 ≤ a then -(r : Int) - 1 else (r : Int)) < (if 9223372036854775808 ≤ b then -(q : Int) - 1 else (q : Int)) then Ordering.lt else Ordering.gt := by
        by_cases h00 : r = 0 ∧ q = 0
        · rw [if_pos h00, h00.1, h00.2, z0, Int.compare_eq_eq]
          by_cases sa : 9223372036854775808 ≤ a <;> by_cases sb : 9223372036854775808 ≤ b <;> simp [sv, sa, sb]
        · rw [if_neg h00]
          by_cases sa : 9223372036854775808 ≤ a <;> by_cases sb : 9223372036854775808 ≤ b <;> simp only [sa, sb, decide_true, decide_false, if_true, if_false, sv, Bool.false_eq_true]
          · rcases Nat.lt_trichotomy r q with h | h | h
            · have := vm _ _ h; rw [if_neg (by omega), Int.compare_eq_gt]; omega
            · exfalso; omega
            · have := vm _ _ h; rw [if_pos (by omega), Int.compare_eq_lt]; omega
          · rw [if_pos (by omega), Int.compare_eq_lt]
            rcases Nat.eq_zero_or_pos r with h | h
            · have := hz q (by omega); omega
            · have := hz r h; omega
          · rw [if_neg (by omega), Int.compare_eq_gt]
            rcases Nat.eq_zero_or_pos r with h | h
            · have := hz q (by omega); omega
            · have := hz r h; omega
          · rcases Nat.lt_trichotomy r q with h | h | h
            · have := vm _ _ h; rw [if_pos (by omega), Int.compare_eq_lt]; omega
            · exfalso; omega
            · have := vm _ _ h; rw [if_neg (by omega), Int.compare_eq_gt]; omega
      rw [key]
      clear key ho vm vi z0 hz
      by_cases h00 : r = 0 ∧ q = 0
      · obtain ⟨rfl, rfl⟩ := h00
        simp only [and_self, if_true]
        have e1 : (some Ordering.eq == some Ordering.lt) = false := by decide
        have e2 : (some Ordering.eq == some Ordering.gt) = false := by decide
        rw [e1, e2]
        simp only [Bool.false_eq_true, if_false, if_true]
        unfold cBo sgn c3
        by_cases sa : 9223372036854775808 ≤ a <;> by_cases sb : 9223372036854775808 ≤ b <;> simp [sa, sb] <;> omega
      · rw [if_neg h00]
        by_cases hlt : (if 9223372036854775808 ≤ a then -(r : Int) - 1 else (r : Int)) < (if 9223372036854775808 ≤ b then -(q : Int) - 1 else (q : Int))
        · rw [if_pos hlt, c3_lt hlt]
          rfl
        · have hne : (if 9223372036854775808 ≤ b then -(q : Int) - 1 else (q : Int)) < (if 9223372036854775808 ≤ a then -(r : Int) - 1 else (r : Int)) := by
            by_cases sa : 9223372036854775808 ≤ a <;> by_cases sb : 9223372036854775808 ≤ b <;> simp only [sa, sb, if_true, if_false] at hlt ⊢ <;> omega
          rw [if_neg hlt, c3_gt hne]
          rfl
  · have hne : (a == b) = false := by
      cases h : (a == b)
      · rfl
      · rw [eq_of_beq h] at hA; rw [hA] at hB; cases hB
    rw [hne]
    simp only [Bool.false_eq_true, if_false, if_true, Bool.false_and, Bool.or_false, Bool.false_or]
    rw [c3_gt (by split <;> omega)]
    rfl
  · have hne : (a == b) = false := by
      cases h : (a == b)
      · rfl
      · rw [eq_of_beq h] at hA; rw [hA] at hB; cases hB
    rw [hne]
    simp only [Bool.false_eq_true, if_false, if_true, Bool.and_false, Bool.or_false, Bool.false_or]
    rw [c3_lt (by split <;> omega)]
    rfl
  · simp [c3]
end Go.Proofs.YtechaplindbfoaaGreatDoor.og
namespace Go.Proofs.YtechaplindbfoaaGreatDoor.og
open Go.ChangeShapes Go.WideShapes Go.ChangeAt Go.RowKit
open vl hiding cB cFl cS cF cI cK cIt
open stp (c3 c3_lt c3_gt c3_eq cB cB_tri)
set_option linter.unusedVariables false
set_option linter.unusedSimpArgs false
def kdW : Vl → Int
  | .mk kd _ _ _ _ _ _ _ => kdOf kd
def kidsI : Vl → List Vl
  | .mk _ _ _ _ _ _ its _ => its.list
def kidsF : Vl → List (ByteArray × Vl)
  | .mk _ _ _ _ _ _ _ fls => fls.list
/-- how two values of one kind stand to each other -/
def leafV (K : Int) : Vl → Vl → Int
  | .mk _ b n f tx ty its fls, .mk _ b' n' f' tx' ty' its' fls' => if K = 1 then cBo b b' else if K = 2 then c3 n n' else if K = 3 then cFl f f' else if K = 4 then cB tx tx' else if K = 5 then lexG ordV its.list its'.list else if K = 6 then lexG ordM fls.list fls'.list else if K = 7 then thn (cB ty ty') (cB tx tx') else 0
theorem ordV_thn (v u : Vl) : ordV v u = thn (c3 (kdW v) (kdW u)) (leafV (kdW v) v u) := by
  obtain ⟨kd, b, n, f, tx, ty, its, fls⟩ := v
  obtain ⟨kd', b', n', f', tx', ty', its', fls'⟩ := u
  rw [ordV, ordI_lex, ordF_lex]
  rfl
theorem rg_leaf (K : Int) (v u : Vl) (hs : Small v) (hu : Small u) (hI : ∀ x y, x ∈ kidsI v → y ∈ kidsI u → Rg (ordV x y)) (hF : ∀ x y, x ∈ kidsF v → y ∈ kidsF u → Rg (ordM x y)) : Rg (leafV K v u) := by
  obtain ⟨kd, b, n, f, tx, ty, its, fls⟩ := v
  obtain ⟨kd', b', n', f', tx', ty', its', fls'⟩ := u
  unfold Small at hs hu
  simp only [leafV]
  split
  · exact Rg.cBo _ _
  · split
    · exact Rg.c3 _ _
    · split
      · rw [cFl_key _ _ hs.2.2.1 hu.2.2.1]; exact Rg.c3 _ _
      · split
        · exact Rg.cB _ _
        · split
          · exact Rg.lexG _ _ (fun x hx y hy => hI x y hx hy)
          · split
            · exact Rg.lexG _ _ (fun x hx y hy => hF x y hx hy)
            · split
              · exact Rg.thn (Rg.cB _ _) (Rg.cB _ _)
              · exact .inr (.inl rfl)
theorem Rg.ordV : ∀ v : Vl, Small v → ∀ u : Vl, Small u → Rg (og.ordV v u) := by
  refine Vl.all ?_
  intro kd b n f tx ty its fls hI hF hs u hu
  rw [ordV_thn]
  have h1 := hs
  have h2 := hu
  obtain ⟨kd', b', n', f', tx', ty', its', fls'⟩ := u
  unfold Small at h1 h2
  exact Rg.thn (Rg.c3 _ _) (rg_leaf _ _ _ hs hu (fun x y hx hy => hI x hx (h1.2.2.2.1.all x hx) y (h2.2.2.2.1.all y hy)) (fun x y hx hy => Rg.thn (Rg.cB _ _) (hF x hx (h1.2.2.2.2.all x hx) y.2 (h2.2.2.2.2.all y hy))))
theorem Rg.ordM (p q : ByteArray × Vl) (hp : Small p.2) (hq : Small q.2) : Rg (og.ordM p q) := Rg.thn (Rg.cB _ _) (Rg.ordV _ hp _ hq)
theorem rg_leaf' (K : Int) (v u : Vl) (hs : Small v) (hu : Small u) : Rg (leafV K v u) := by
  have h1 := hs
  have h2 := hu
  obtain ⟨kd, b, n, f, tx, ty, its, fls⟩ := v
  obtain ⟨kd', b', n', f', tx', ty', its', fls'⟩ := u
  unfold Small at h1 h2
  exact rg_leaf K _ _ hs hu (fun x y hx hy => Rg.ordV x (h1.2.2.2.1.all x hx) y (h2.2.2.2.1.all y hy)) (fun x y hx hy => Rg.ordM x y (h1.2.2.2.2.all x hx) (h2.2.2.2.2.all y hy))
theorem c3_zero' {x t : Int} (h : c3 x t = 0) : x = t := by
  unfold stp.c3 at h
  split at h
  · omega
  · split at h <;> omega
theorem Tr.ordV : ∀ v : Vl, Small v → ∀ u : Vl, Small u → ∀ w : Vl, Small w → Tr (og.ordV v u) (og.ordV u w) (og.ordV v w) := by
  refine Vl.all ?_
  intro kd b n f tx ty its fls hI hF hs u hu w hw
  rw [ordV_thn _ u, ordV_thn u w, ordV_thn _ w]
  refine Tr.thn' (Rg.c3 _ _) (Rg.c3 _ _) (Rg.c3 _ _) (rg_leaf' _ _ _ hs hu) (rg_leaf' _ _ _ hu hw) (rg_leaf' _ _ _ hs hw) (Tr.c3 _ _ _) (fun e1 e2 => ?_)
  have e1 := c3_zero' e1
  rw [← e1]
  generalize kdW (.mk kd b n f tx ty its fls) = K at *
  clear e1 e2
  obtain ⟨kd', b', n', f', tx', ty', its', fls'⟩ := u
  obtain ⟨kd2, b2, n2, f2, tx2, ty2, its2, fls2⟩ := w
  unfold Small at hs hu hw
  simp only [leafV]
  split
  · exact Tr.cBo _ _ _
  · split
    · exact Tr.c3 _ _ _
    · split
      · rw [cFl_key _ _ hs.2.2.1 hu.2.2.1, cFl_key _ _ hu.2.2.1 hw.2.2.1, cFl_key _ _ hs.2.2.1 hw.2.2.1]; exact Tr.c3 _ _ _
      · split
        · exact Tr.cB _ _ _
        · split
          · exact Tr.lexG _ _ _ (fun x y hx hy => Rg.ordV x (hx.elim (hs.2.2.2.1.all x) (hu.2.2.2.1.all x)) y (hy.elim (hu.2.2.2.1.all y) (hw.2.2.2.1.all y))) (fun x hx y hy z hz => hI x hx (hs.2.2.2.1.all x hx) y (hu.2.2.2.1.all y hy) z (hw.2.2.2.1.all z hz))
          · split
            · refine Tr.lexG _ _ _ (fun x y hx hy => Rg.ordM x y (hx.elim (hs.2.2.2.2.all x) (hu.2.2.2.2.all x)) (hy.elim (hu.2.2.2.2.all y) (hw.2.2.2.2.all y))) (fun x hx y hy z hz => ?_)
              exact Tr.thn (Rg.cB _ _) (Rg.cB _ _) (Rg.cB _ _) (Tr.cB _ _ _) (hF x hx (hs.2.2.2.2.all x hx) y.2 (hu.2.2.2.2.all y hy) z.2 (hw.2.2.2.2.all z hz))
            · split
              · exact Tr.thn (Rg.cB _ _) (Rg.cB _ _) (Rg.cB _ _) (Tr.cB _ _ _) (Tr.cB _ _ _)
              · simp [Tr]
theorem Tr.ordM (p q r : ByteArray × Vl) (hp : Small p.2) (hq : Small q.2) (hr : Small r.2) : Tr (og.ordM p q) (og.ordM q r) (og.ordM p r) :=
  Tr.thn (Rg.cB _ _) (Rg.cB _ _) (Rg.cB _ _) (Tr.cB _ _ _) (Tr.ordV _ hp _ hq _ hr)
end Go.Proofs.YtechaplindbfoaaGreatDoor.og
namespace Go.Proofs.YtechaplindbfoaaGreatDoor.og
open Go.ChangeShapes Go.WideShapes Go.ChangeAt Go.RowKit
open vl hiding cB cFl cS cF cI cK cIt
set_option linter.unusedVariables false
set_option linter.unusedSimpArgs false
mutual
/-- these eight cells are the value v, and none of its lists lies in a block of Q -/
def AvC (Q : Nat → Prop) (w : World) : Vl → List Value → Prop
  | .mk kd b n f tx ty its fls, cs => ∃ (ai : Option Addr) (ni ci : Nat) (af : Option Addr) (nf cf : Nat), cs = [.int .i64 kd, .bool b, .int .i64 n, .float .f64 f, .string tx, .string ty, .slice ai ni ci, .slice af nf cf] ∧
      AvI Q w its ai ni ∧ AvF Q w fls af nf ∧ ni ≤ ci ∧ nf ≤ cf ∧ (ai = none → ci = 0) ∧ (af = none → cf = 0) ∧ (Lit.int .i64 kd).wf = true ∧ (Lit.int .i64 n).wf = true ∧ tx.size ≤ maxLen ∧ ty.size ≤ maxLen ∧ ci ≤ maxLen ∧ cf ≤ maxLen
def AvI (Q : Nat → Prop) (w : World) : Vls → Option Addr → Nat → Prop
  | .nil, _, n => n = 0
  | .cons v r, a, n => ∃ (b off m : Nat) (cs : List Value), a = some ⟨b, off, none⟩ ∧ n = m + 1 ∧ ¬ Q b ∧ Row8 w b off cs ∧ AvC Q w v cs ∧ AvI Q w r (some ⟨b, off + 8, none⟩) m
def AvF (Q : Nat → Prop) (w : World) : Fls → Option Addr → Nat → Prop
  | .nil, _, n => n = 0
  | .cons nm v r, a, n => ∃ (b off m : Nat) (cs : List Value), a = some ⟨b, off, none⟩ ∧ n = m + 1 ∧ ¬ Q b ∧ w.cell? ⟨b, off, none⟩ = some (.string nm) ∧ nm.size ≤ maxLen ∧ Row8 w b (off + 1) cs ∧ AvC Q w v cs ∧ AvF Q w r (some ⟨b, off + 9, none⟩) m
end
mutual
theorem AvC.read {Q : Nat → Prop} {w : World} : ∀ (v : Vl) (cs : List Value), AvC Q w v cs → VlC w v cs
  | .mk kd b n f tx ty its fls, cs, h => by
    unfold AvC at h
    unfold VlC
    obtain ⟨ai, ni, ci, af, nf, cf, rfl, h1, h2, r⟩ := h
    exact ⟨ai, ni, ci, af, nf, cf, rfl, AvI.read its ai ni h1, AvF.read fls af nf h2, r⟩
theorem AvI.read {Q : Nat → Prop} {w : World} : ∀ (l : Vls) (a : Option Addr) (n : Nat), AvI Q w l a n → VlsAt w l a n
  | .nil, a, n, h => by unfold AvI at h; unfold VlsAt; exact h
  | .cons v r, a, n, h => by
    unfold AvI at h
    unfold VlsAt
    obtain ⟨b, off, m, cs, rfl, rfl, _, h1, h2, h3⟩ := h
    exact ⟨b, off, m, cs, rfl, rfl, h1, AvC.read v cs h2, AvI.read r _ m h3⟩
theorem AvF.read {Q : Nat → Prop} {w : World} : ∀ (l : Fls) (a : Option Addr) (n : Nat), AvF Q w l a n → FlsAt w l a n
  | .nil, a, n, h => by unfold AvF at h; unfold FlsAt; exact h
  | .cons nm v r, a, n, h => by
    unfold AvF at h
    unfold FlsAt
    obtain ⟨b, off, m, cs, rfl, rfl, _, h0, hz, h1, h2, h3⟩ := h
    exact ⟨b, off, m, cs, rfl, rfl, h0, hz, h1, AvC.read v cs h2, AvF.read r _ m h3⟩
end
theorem AvC.cells {Q : Nat → Prop} {w : World} {v : Vl} {cs : List Value} (h : AvC Q w v cs) : cs.length = 8 := (AvC.read v cs h).cells
theorem Row8.lt {w : World} {b off : Nat} {cs : List Value} (h : Row8 w b off cs) (h8 : cs.length = 8) : b < w.heap.size := by
  obtain ⟨a, b', c, d, e, f, g, i, rfl⟩ := list_eight h8
  exact World.block_lt_of_cell? w _ (h 0 a rfl)
mutual
/-- what is read so is read so in every world that agrees outside Q' -/
theorem AvC.agree {Q Q' : Nat → Prop} {w W : World} (hq : ∀ b, b < w.heap.size → ¬ Q b → ¬ Q' b) (ha : ∀ b j, b < w.heap.size → ¬ Q b → W.cell? ⟨b, j, none⟩ = w.cell? ⟨b, j, none⟩) : ∀ (v : Vl) (cs : List Value), AvC Q w v cs → AvC Q' W v cs
  | .mk kd b n f tx ty its fls, cs, h => by
    unfold AvC at h ⊢
    obtain ⟨ai, ni, ci, af, nf, cf, rfl, h1, h2, r⟩ := h
    exact ⟨ai, ni, ci, af, nf, cf, rfl, AvI.agree hq ha its ai ni h1, AvF.agree hq ha fls af nf h2, r⟩
theorem AvI.agree {Q Q' : Nat → Prop} {w W : World} (hq : ∀ b, b < w.heap.size → ¬ Q b → ¬ Q' b) (ha : ∀ b j, b < w.heap.size → ¬ Q b → W.cell? ⟨b, j, none⟩ = w.cell? ⟨b, j, none⟩) : ∀ (l : Vls) (a : Option Addr) (n : Nat), AvI Q w l a n → AvI Q' W l a n
  | .nil, a, n, h => by unfold AvI at h ⊢; exact h
  | .cons v r, a, n, h => by
    unfold AvI at h ⊢
    obtain ⟨b, off, m, cs, rfl, rfl, hb, h1, h2, h3⟩ := h
    have hl := Row8.lt h1 h2.cells
    exact ⟨b, off, m, cs, rfl, rfl, hq b hl hb, fun i u hu => (ha b _ hl hb).trans (h1 i u hu), AvC.agree hq ha v cs h2, AvI.agree hq ha r _ m h3⟩
theorem AvF.agree {Q Q' : Nat → Prop} {w W : World} (hq : ∀ b, b < w.heap.size → ¬ Q b → ¬ Q' b) (ha : ∀ b j, b < w.heap.size → ¬ Q b → W.cell? ⟨b, j, none⟩ = w.cell? ⟨b, j, none⟩) : ∀ (l : Fls) (a : Option Addr) (n : Nat), AvF Q w l a n → AvF Q' W l a n
  | .nil, a, n, h => by unfold AvF at h ⊢; exact h
  | .cons nm v r, a, n, h => by
    unfold AvF at h ⊢
    obtain ⟨b, off, m, cs, rfl, rfl, hb, h0, hz, h1, h2, h3⟩ := h
    have hl := Row8.lt h1 h2.cells
    exact ⟨b, off, m, cs, rfl, rfl, hq b hl hb, (ha b _ hl hb).trans h0, hz, fun i u hu => (ha b _ hl hb).trans (h1 i u hu), AvC.agree hq ha v cs h2, AvF.agree hq ha r _ m h3⟩
end
mutual
theorem AvC.of {w : World} : ∀ (v : Vl) (cs : List Value), VlC w v cs → AvC (fun _ => False) w v cs
  | .mk kd b n f tx ty its fls, cs, h => by
    unfold VlC at h
    unfold AvC
    obtain ⟨ai, ni, ci, af, nf, cf, rfl, h1, h2, r⟩ := h
    exact ⟨ai, ni, ci, af, nf, cf, rfl, AvI.of its ai ni h1, AvF.of fls af nf h2, r⟩
theorem AvI.of {w : World} : ∀ (l : Vls) (a : Option Addr) (n : Nat), VlsAt w l a n → AvI (fun _ => False) w l a n
  | .nil, a, n, h => by unfold VlsAt at h; unfold AvI; exact h
  | .cons v r, a, n, h => by
    unfold VlsAt at h
    unfold AvI
    obtain ⟨b, off, m, cs, rfl, rfl, h1, h2, h3⟩ := h
    exact ⟨b, off, m, cs, rfl, rfl, fun h => h, h1, AvC.of v cs h2, AvI.of r _ m h3⟩
theorem AvF.of {w : World} : ∀ (l : Fls) (a : Option Addr) (n : Nat), FlsAt w l a n → AvF (fun _ => False) w l a n
  | .nil, a, n, h => by unfold FlsAt at h; unfold AvF; exact h
  | .cons nm v r, a, n, h => by
    unfold FlsAt at h
    unfold AvF
    obtain ⟨b, off, m, cs, rfl, rfl, h0, hz, h1, h2, h3⟩ := h
    exact ⟨b, off, m, cs, rfl, rfl, fun h => h, h0, hz, h1, AvC.of v cs h2, AvF.of r _ m h3⟩
end
/-- in a later world -/
theorem AvC.below {Q : Nat → Prop} {w W : World} {v : Vl} {cs : List Value} (h : AvC Q w v cs) (hb : Below w.heap.size w W) : AvC Q W v cs := AvC.agree (fun _ _ h => h) (fun b j hl _ => hb.cell (p := ⟨b, j, none⟩) hl) v cs h
/-- a block that was not there yet may be added to Q -/
theorem AvC.add {Q : Nat → Prop} {w : World} {v : Vl} {cs : List Value} {p : Nat} (h : AvC Q w v cs) (hp : w.heap.size ≤ p) : AvC (fun b => Q b ∨ b = p) w v cs := AvC.agree (fun b hl hn e => e.elim hn (fun e => by omega)) (fun _ _ _ _ => rfl) v cs h
theorem AvC.sub {Q Q' : Nat → Prop} {w : World} {v : Vl} {cs : List Value} (h : AvC Q w v cs) (hs : ∀ b, Q' b → Q b) : AvC Q' w v cs := AvC.agree (fun b _ hn e => hn (hs b e)) (fun _ _ _ _ => rfl) v cs h
mutual
theorem OwC.av {Q : Nat → Prop} {w : World} : ∀ (v : Vl) (cs : List Value) (F : List Nat), (∀ b ∈ F, ¬ Q b) → OwC w v cs F → AvC Q w v cs
  | .mk kd b n f tx ty its fls, cs, F, hF, h => by
    unfold OwC at h
    unfold AvC
    obtain ⟨ai, ni, ci, af, nf, cf, Fi, Ff, rfl, h1, h2, r1, r2, r3, r4, r5, r6, r7, r8, r9, r10, rfl⟩ := h
    refine ⟨ai, ni, ci, af, nf, cf, rfl, ?_, ?_, r1, r2, r3, r4, r5, r6, r7, r8, r9, r10⟩
    · rcases h1 with ⟨rfl, rfl, rfl, -⟩ | ⟨p, G, rfl, rfl, h1⟩
      · unfold AvI; rfl
      · exact OwsIn.av its p 0 ni G (fun b hb => hF b (List.mem_append_left _ hb)) h1
    · rcases h2 with ⟨rfl, rfl, rfl, -⟩ | ⟨p, G, rfl, rfl, h2⟩
      · unfold AvF; rfl
      · exact OwfIn.av fls p 0 nf G (fun b hb => hF b (List.mem_append_right _ hb)) h2
theorem OwsIn.av {Q : Nat → Prop} {w : World} : ∀ (l : Vls) (p off n : Nat) (G : List Nat), (∀ b ∈ p :: G, ¬ Q b) → OwsIn w l p off n G → AvI Q w l (some ⟨p, off, none⟩) n
  | .nil, p, off, n, G, hF, h => by unfold OwsIn at h; unfold AvI; exact h.1
  | .cons v r, p, off, n, G, hF, h => by
    unfold OwsIn at h
    unfold AvI
    obtain ⟨m, cs, G1, G2, rfl, h1, h2, h3, rfl⟩ := h
    exact ⟨p, off, m, cs, rfl, rfl, hF p (List.mem_cons_self ..), h1, OwC.av v cs G1 (fun b hb => hF b (List.mem_cons_of_mem _ (List.mem_append_left _ hb))) h2, OwsIn.av r p _ m G2 (fun b hb => hF b (by simp at hb ⊢; rcases hb with h | h <;> simp [h])) h3⟩
theorem OwfIn.av {Q : Nat → Prop} {w : World} : ∀ (l : Fls) (p off n : Nat) (G : List Nat), (∀ b ∈ p :: G, ¬ Q b) → OwfIn w l p off n G → AvF Q w l (some ⟨p, off, none⟩) n
  | .nil, p, off, n, G, hF, h => by unfold OwfIn at h; unfold AvF; exact h.1
  | .cons nm v r, p, off, n, G, hF, h => by
    unfold OwfIn at h
    unfold AvF
    obtain ⟨m, cs, G1, G2, rfl, h0, hz, h1, h2, h3, rfl⟩ := h
    exact ⟨p, off, m, cs, rfl, rfl, hF p (List.mem_cons_self ..), h0, hz, h1, OwC.av v cs G1 (fun b hb => hF b (List.mem_cons_of_mem _ (List.mem_append_left _ hb))) h2, OwfIn.av r p _ m G2 (fun b hb => hF b (by simp at hb ⊢; rcases hb with h | h <;> simp [h])) h3⟩
end
/-- the i-th value of a list -/
theorem AvI.get {Q : Nat → Prop} {w : World} : ∀ (l : Vls) (a : Option Addr) (n : Nat), AvI Q w l a n → ∀ i, i < n → ∃ (b off : Nat) (v : Vl) (cs : List Value), a = some ⟨b, off, none⟩ ∧ l.list[i]? = some v ∧ ¬ Q b ∧ Row8 w b (off + i * 8) cs ∧ AvC Q w v cs
  | .nil, a, n, h, i, hi => by unfold AvI at h; omega
  | .cons v r, a, n, h, i, hi => by
    unfold AvI at h
    obtain ⟨b, off, m, cs, rfl, rfl, hq, h1, h2, h3⟩ := h
    match i with
    | 0 => exact ⟨b, off, v, cs, rfl, rfl, hq, by simpa using h1, h2⟩
    | i + 1 =>
      obtain ⟨b', off', v', cs', e, g, q, r1, r2⟩ := AvI.get r _ m h3 i (by omega)
      simp only [Option.some.injEq, Addr.mk.injEq, and_true] at e
      obtain ⟨rfl, rfl⟩ := e
      exact ⟨b, off, v', cs', rfl, by simpa [Vls.list] using g, hq, by rw [show off + (i + 1) * 8 = off + 8 + i * 8 by omega]; exact r1, r2⟩
theorem AvF.get {Q : Nat → Prop} {w : World} : ∀ (l : Fls) (a : Option Addr) (n : Nat), AvF Q w l a n → ∀ i, i < n → ∃ (b off : Nat) (nm : ByteArray) (v : Vl) (cs : List Value), a = some ⟨b, off, none⟩ ∧ l.list[i]? = some (nm, v) ∧ ¬ Q b ∧ w.cell? ⟨b, off + i * 9, none⟩ = some (.string nm) ∧ nm.size ≤ maxLen ∧ Row8 w b (off + i * 9 + 1) cs ∧ AvC Q w v cs
  | .nil, a, n, h, i, hi => by unfold AvF at h; omega
  | .cons nm v r, a, n, h, i, hi => by
    unfold AvF at h
    obtain ⟨b, off, m, cs, rfl, rfl, hq, h0, hz, h1, h2, h3⟩ := h
    match i with
    | 0 => exact ⟨b, off, nm, v, cs, rfl, rfl, hq, by simpa using h0, hz, by simpa using h1, h2⟩
    | i + 1 =>
      obtain ⟨b', off', nm', v', cs', e, g, q, r0, rz, r1, r2⟩ := AvF.get r _ m h3 i (by omega)
      simp only [Option.some.injEq, Addr.mk.injEq, and_true] at e
      obtain ⟨rfl, rfl⟩ := e
      exact ⟨b, off, nm', v', cs', rfl, by simpa [Fls.list] using g, hq, by rw [show off + (i + 1) * 9 = off + 9 + i * 9 by omega]; exact r0, rz, by rw [show off + (i + 1) * 9 + 1 = off + 9 + i * 9 + 1 by omega]; exact r1, r2⟩
theorem AvI.mk {Q : Nat → Prop} {w : World} {p : Nat} (hp : ¬ Q p) : ∀ (l : List Vl) (off : Nat), (∀ i v, l[i]? = some v → ∃ cs, Row8 w p (off + i * 8) cs ∧ AvC Q w v cs) → AvI Q w (Vls.of l) (some ⟨p, off, none⟩) l.length
  | [], off, h => by simp only [Vls.of]; unfold AvI; rfl
  | v :: r, off, h => by
    simp only [Vls.of]
    unfold AvI
    obtain ⟨cs, h1, h2⟩ := h 0 v rfl
    exact ⟨p, off, r.length, cs, rfl, rfl, hp, by simpa using h1, h2, AvI.mk hp r (off + 8) (fun i u hu => by
      obtain ⟨ds, g1, g2⟩ := h (i + 1) u (by simpa using hu)
      exact ⟨ds, by rw [show off + 8 + i * 8 = off + (i + 1) * 8 by omega]; exact g1, g2⟩)⟩
theorem AvF.mk {Q : Nat → Prop} {w : World} {p : Nat} (hp : ¬ Q p) : ∀ (l : List (ByteArray × Vl)) (off : Nat), (∀ i q, l[i]? = some q → ∃ cs, w.cell? ⟨p, off + i * 9, none⟩ = some (.string q.1) ∧ q.1.size ≤ maxLen ∧ Row8 w p (off + i * 9 + 1) cs ∧ AvC Q w q.2 cs) → AvF Q w (Fls.of l) (some ⟨p, off, none⟩) l.length
  | [], off, h => by simp only [Fls.of]; unfold AvF; rfl
  | v :: r, off, h => by
    simp only [Fls.of]
    unfold AvF
    obtain ⟨cs, h0, hz, h1, h2⟩ := h 0 v rfl
    exact ⟨p, off, r.length, cs, rfl, rfl, hp, by simpa using h0, hz, by simpa using h1, h2, AvF.mk hp r (off + 9) (fun i u hu => by
      obtain ⟨ds, g0, gz, g1, g2⟩ := h (i + 1) u (by simpa using hu)
      exact ⟨ds, by rw [show off + 9 + i * 9 = off + (i + 1) * 9 by omega]; exact g0, gz, by rw [show off + 9 + i * 9 + 1 = off + (i + 1) * 9 + 1 by omega]; exact g1, g2⟩)⟩
end Go.Proofs.YtechaplindbfoaaGreatDoor.og
namespace Go.Proofs.YtechaplindbfoaaGreatDoor.og
open Go.ChangeShapes Go.WideShapes Go.ChangeAt Go.RowKit
open vl hiding cB cFl cS cF cI cK cIt
set_option linter.unusedVariables false
set_option linter.unusedSimpArgs false
/-- two lists, element by element -/
def Pw {α : Type} (R : α → α → Prop) (l l' : List α) : Prop := l.length = l'.length ∧ ∀ (i : Nat) (x y : α), l[i]? = some x → l'[i]? = some y → R x y
theorem Pw.snoc {α : Type} {R : α → α → Prop} {l l' : List α} {k : Nat} {x y : α} (h : Pw R (l.take k) l') (hx : l[k]? = some x) (hr : R x y) : Pw R (l.take (k + 1)) (l' ++ [y]) := by
  have hk : k < l.length := (List.getElem?_eq_some_iff.1 hx).1
  have hl : l'.length = k := by have := h.1; simp at this; omega
  refine ⟨by simp; omega, fun i a b ha hb => ?_⟩
  by_cases hi : i < k
  · exact h.2 i a b (by rw [List.getElem?_take_of_lt hi]; rw [List.getElem?_take_of_lt (by omega)] at ha; exact ha) (by rw [List.getElem?_append_left (by omega)] at hb; exact hb)
  · have hi2 : i < k + 1 := by have := (List.getElem?_eq_some_iff.1 ha).1; simp at this; omega
    obtain rfl : i = k := by omega
    rw [List.getElem?_take_of_lt (by omega), hx] at ha
    rw [List.getElem?_append_right (by omega), hl] at hb
    simp at ha hb
    rw [← ha, ← hb]
    exact hr
end Go.Proofs.YtechaplindbfoaaGreatDoor.og
namespace Go.Proofs.YtechaplindbfoaaGreatDoor.og
open Go.ChangeShapes Go.WideShapes Go.ChangeAt Go.RowKit
open vl hiding cB cFl cS cF cI cK cIt
open stp (c3 c3_lt c3_gt c3_eq cB cB_tri)
set_option linter.unusedVariables false
set_option linter.unusedSimpArgs false
def kdV : Vl → Int
  | .mk kd _ _ _ _ _ _ _ => kdOf kd
end Go.Proofs.YtechaplindbfoaaGreatDoor.og
namespace Go.Proofs.YtechaplindbfoaaGreatDoor.vl
open Go.ChangeShapes Go.WideShapes Go.ChangeAt Go.RowKit
open stp (St Pth St3)
set_option linter.unusedVariables false
set_option linter.unusedSimpArgs false
/-- the number of the child to which a step leads -/
def chI : Vl → St → Option Nat
  | .mk kd b n f tx ty its fls, s => if s.it = true then (if kd = 5 ∧ 0 ≤ s.ix ∧ s.ix < its.list.length then some s.ix.toNat else none) else (if kd = 6 then fls.list.findIdx? (fun q => decide (q.1 = s.nm)) else none)
end Go.Proofs.YtechaplindbfoaaGreatDoor.vl
namespace Go.Proofs.YtechaplindbfoaaGreatDoor.vl
open Go.ChangeShapes Go.WideShapes Go.ChangeAt Go.RowKit
open stp (St Pth St3)
set_option linter.unusedVariables false
set_option linter.unusedSimpArgs false
/-- where the child number i of a value with these cells lies -/
def Loc (cs : List Value) (s : St) (i b o : Nat) : Prop :=
  ∃ p off n c, if s.it = true then cs[6]? = some (.slice (some ⟨p, off, none⟩) n c) ∧ b = p ∧ o = off + i * 8 else cs[7]? = some (.slice (some ⟨p, off, none⟩) n c) ∧ b = p ∧ o = off + i * 9 + 1
def getS : Vl → St → Option Vl
  | .mk kd b n f tx ty its fls, s => match chI (.mk kd b n f tx ty its fls) s with
    | none => none
    | some i => if s.it = true then its.list[i]? else (fls.list[i]?).map (·.2)
theorem chI_mk (kd : Int) (b : Bool) (n : Int) (f : Nat) (tx ty : ByteArray) (its : Vls) (fls : Fls) (s : St) : chI (.mk kd b n f tx ty its fls) s = if s.it = true then (if kd = 5 ∧ 0 ≤ s.ix ∧ s.ix < its.list.length then some s.ix.toNat else none) else (if kd = 6 then fls.list.findIdx? (fun q => decide (q.1 = s.nm)) else none) := rfl
theorem findIdx_get {α : Type} {f : α → Bool} {l : List α} {i : Nat} (h : l.findIdx? f = some i) : ∃ x, l[i]? = some x ∧ f x = true := by
  rw [List.findIdx?_eq_some_iff_getElem] at h
  obtain ⟨hi, hx, _⟩ := h
  exact ⟨l[i], by simp [hi], hx⟩
end Go.Proofs.YtechaplindbfoaaGreatDoor.vl
namespace Go.Proofs.YtechaplindbfoaaGreatDoor.vl
open Go.ChangeShapes Go.WideShapes Go.ChangeAt Go.RowKit
open stp (St Pth St3)
set_option linter.unusedVariables false
set_option linter.unusedSimpArgs false
theorem Small.getS {v u : Vl} {s : St} (hv : Small v) (h : getS v s = some u) : Small u := by
  obtain ⟨kd, bb, ni, f, tx, ty, its, fls⟩ := v
  unfold Small at hv
  simp only [vl.getS] at h
  cases hc : chI (.mk kd bb ni f tx ty its fls) s with
  | none => rw [hc] at h; cases h
  | some i =>
    rw [hc] at h
    simp only at h
    by_cases ht : s.it = true
    · rw [if_pos ht] at h
      exact hv.2.2.2.1.all u (List.mem_of_getElem? h)
    · rw [if_neg ht, Option.map_eq_some_iff] at h
      obtain ⟨q, hq, rfl⟩ := h
      exact hv.2.2.2.2.all q (List.mem_of_getElem? hq)
/-- the empty value -/
def z8 : List Value := [.int .i64 0, .bool false, .int .i64 0, .float .f64 0, .string { data := #[] }, .string { data := #[] }, .slice none 0 0, .slice none 0 0]
def z0 : Vl := .mk 0 false 0 0 { data := #[] } { data := #[] } .nil .nil
theorem OwC.zero (w : World) : OwC w z0 z8 [] := by
  unfold z0 OwC
  exact ⟨none, 0, 0, none, 0, 0, [], [], rfl, .inl ⟨rfl, rfl, rfl, rfl⟩, .inl ⟨rfl, rfl, rfl, rfl⟩, Nat.le_refl _, Nat.le_refl _, fun _ => rfl, fun _ => rfl, rfl, rfl, Nat.zero_le _, Nat.zero_le _, Nat.zero_le _, Nat.zero_le _, rfl⟩
end Go.Proofs.YtechaplindbfoaaGreatDoor.vl
namespace Go.Proofs.YtechaplindbfoaaGreatDoor.vl
open Go.ChangeShapes Go.WideShapes Go.ChangeAt Go.RowKit
open stp (St Pth St3)
set_option linter.unusedVariables false
set_option linter.unusedSimpArgs false
/-- the child number i is another value -/
def setS : Vl → St → Nat → Vl → Vl
  | .mk kd b n f tx ty its fls, s, i, x => if s.it = true then .mk kd b n f tx ty (Vls.of (its.list.set i x)) fls else .mk kd b n f tx ty its (Fls.of (fls.list.modify i fun q => (q.1, x)))
theorem OwsIn.keepR {w w' : World} : ∀ (l : Vls) (p off n : Nat) (G : List Nat), Agree G w w' → (∀ o, off ≤ o → o < off + n * 8 → w'.cell? ⟨p, o, none⟩ = w.cell? ⟨p, o, none⟩) → OwsIn w l p off n G → OwsIn w' l p off n G
  | .nil, p, off, n, G, ha, hc, h => by unfold OwsIn at h ⊢; exact h
  | .cons v r, p, off, n, G, ha, hc, h => by
    unfold OwsIn at h ⊢
    obtain ⟨m, cs, G1, G2, rfl, h1, h2, h3, rfl⟩ := h
    have h8 := (OwC.read v cs G1 h2).cells
    exact ⟨m, cs, G1, G2, rfl, fun i u hu => (hc (off + i) (by omega) (by have := (List.getElem?_eq_some_iff.1 hu).1; omega)).trans (h1 i u hu), OwC.agree v cs G1 ha.left h2, OwsIn.keepR r p _ m G2 ha.right (fun o h0 ho => hc o (by omega) (by omega)) h3, rfl⟩
theorem OwfIn.keepR {w w' : World} : ∀ (l : Fls) (p off n : Nat) (G : List Nat), Agree G w w' → (∀ o, off ≤ o → o < off + n * 9 → w'.cell? ⟨p, o, none⟩ = w.cell? ⟨p, o, none⟩) → OwfIn w l p off n G → OwfIn w' l p off n G
  | .nil, p, off, n, G, ha, hc, h => by unfold OwfIn at h ⊢; exact h
  | .cons nm v r, p, off, n, G, ha, hc, h => by
    unfold OwfIn at h ⊢
    obtain ⟨m, cs, G1, G2, rfl, h0, hz, h1, h2, h3, rfl⟩ := h
    have h8 := (OwC.read v cs G1 h2).cells
    exact ⟨m, cs, G1, G2, rfl, (hc off (by omega) (by omega)).trans h0, hz, fun i u hu => (hc (off + 1 + i) (by omega) (by have := (List.getElem?_eq_some_iff.1 hu).1; omega)).trans (h1 i u hu), OwC.agree v cs G1 ha.left h2, OwfIn.keepR r p _ m G2 ha.right (fun o h0 ho => hc o (by omega) (by omega)) h3, rfl⟩
/-- one item of a list that is owned, and the list around it -/
theorem OwsIn.hole {w : World} : ∀ (l : Vls) (p off n : Nat) (G : List Nat), OwsIn w l p off n G → G.Nodup → ∀ i, i < n → ∃ u us Gi Gr, l.list[i]? = some u ∧ Row8 w p (off + i * 8) us ∧ OwC w u us Gi ∧ Gi.Nodup ∧ (∀ c ∈ Gi, c ∈ G ∧ c ∉ Gr) ∧ (∀ c ∈ Gr, c ∈ G) ∧
    ∀ w' x ds, Agree Gr w w' → (∀ j, (j < off + i * 8 ∨ off + i * 8 + 8 ≤ j) → w'.cell? ⟨p, j, none⟩ = w.cell? ⟨p, j, none⟩) → Row8 w' p (off + i * 8) ds → VlC w' x ds → VlsAt w' (Vls.of (l.list.set i x)) (some ⟨p, off, none⟩) n
  | .nil, p, off, n, G, h, hn, i, hi => by unfold OwsIn at h; omega
  | .cons v r, p, off, n, G, h, hn, i, hi => by
    unfold OwsIn at h
    obtain ⟨m, cs, G1, G2, rfl, h1, h2, h3, rfl⟩ := h
    rw [List.nodup_append] at hn
    obtain ⟨n1, n2, n3⟩ := hn
    match i with
    | 0 =>
      refine ⟨v, cs, G1, G2, rfl, by simpa using h1, h2, n1, fun c hc => ⟨List.mem_append_left _ hc, fun hc' => n3 c hc c hc' rfl⟩, fun c hc => List.mem_append_right _ hc, ?_⟩
      intro w' x ds ha hc hr hx
      simp only [Vls.list, List.set_cons_zero, Vls.of]
      unfold VlsAt
      refine ⟨p, off, m, ds, rfl, rfl, by simpa using hr, hx, ?_⟩
      rw [Vls.of_list]
      exact OwsIn.read _ _ _ _ _ (OwsIn.keepR r p (off + 8) m G2 ha (fun o h0 _ => hc o (.inr (by omega))) h3)
    | i + 1 =>
      obtain ⟨u, us, Gi, Gr, g1, g2, g3, g4, g5, g6, g7⟩ := OwsIn.hole r p (off + 8) m G2 h3 n2 i (by omega)
      rw [show off + 8 + i * 8 = off + (i + 1) * 8 by omega] at g2 g7
      refine ⟨u, us, Gi, G1 ++ Gr, by simpa [Vls.list] using g1, g2, g3, g4, fun c hc => ⟨List.mem_append_right _ (g5 c hc).1, fun hc' => ?_⟩, fun c hc => ?_, ?_⟩
      · rcases List.mem_append.1 hc' with h | h
        · exact n3 c h c (g5 c hc).1 rfl
        · exact (g5 c hc).2 h
      · rcases List.mem_append.1 hc with h | h
        · exact List.mem_append_left _ h
        · exact List.mem_append_right _ (g6 c h)
      · intro w' x ds ha hc hr hx
        simp only [Vls.list, List.set_cons_succ, Vls.of]
        unfold VlsAt
        have h8 := (OwC.read v cs G1 h2).cells
        refine ⟨p, off, m, cs, rfl, rfl, fun j y hy => (hc (off + j) (.inl (by have := (List.getElem?_eq_some_iff.1 hy).1; omega))).trans (h1 j y hy), OwC.read _ _ _ (OwC.agree v cs G1 ha.left h2), g7 w' x ds ha.right hc hr hx⟩
theorem OwfIn.hole {w : World} : ∀ (l : Fls) (p off n : Nat) (G : List Nat), OwfIn w l p off n G → G.Nodup → ∀ i, i < n → ∃ nm u us Gi Gr, l.list[i]? = some (nm, u) ∧ Row8 w p (off + i * 9 + 1) us ∧ OwC w u us Gi ∧ Gi.Nodup ∧ (∀ c ∈ Gi, c ∈ G ∧ c ∉ Gr) ∧ (∀ c ∈ Gr, c ∈ G) ∧
    ∀ w' x ds, Agree Gr w w' → (∀ j, (j < off + i * 9 + 1 ∨ off + i * 9 + 1 + 8 ≤ j) → w'.cell? ⟨p, j, none⟩ = w.cell? ⟨p, j, none⟩) → Row8 w' p (off + i * 9 + 1) ds → VlC w' x ds → FlsAt w' (Fls.of (l.list.modify i fun q => (q.1, x))) (some ⟨p, off, none⟩) n
  | .nil, p, off, n, G, h, hn, i, hi => by unfold OwfIn at h; omega
  | .cons nm v r, p, off, n, G, h, hn, i, hi => by
    unfold OwfIn at h
    obtain ⟨m, cs, G1, G2, rfl, h0, hz, h1, h2, h3, rfl⟩ := h
    rw [List.nodup_append] at hn
    obtain ⟨n1, n2, n3⟩ := hn
    match i with
    | 0 =>
      refine ⟨nm, v, cs, G1, G2, rfl, by simpa using h1, h2, n1, fun c hc => ⟨List.mem_append_left _ hc, fun hc' => n3 c hc c hc' rfl⟩, fun c hc => List.mem_append_right _ hc, ?_⟩
      intro w' x ds ha hc hr hx
      simp only [Fls.list, List.modify_zero_cons, Fls.of]
      unfold FlsAt
      refine ⟨p, off, m, ds, rfl, rfl, (hc off (.inl (by omega))).trans h0, hz, by simpa using hr, hx, ?_⟩
      rw [Fls.of_list]
      exact OwfIn.read _ _ _ _ _ (OwfIn.keepR r p (off + 9) m G2 ha (fun o h0 _ => hc o (.inr (by omega))) h3)
    | i + 1 =>
      obtain ⟨nm', u, us, Gi, Gr, g1, g2, g3, g4, g5, g6, g7⟩ := OwfIn.hole r p (off + 9) m G2 h3 n2 i (by omega)
      rw [show off + 9 + i * 9 + 1 = off + (i + 1) * 9 + 1 by omega] at g2 g7
      refine ⟨nm', u, us, Gi, G1 ++ Gr, by simpa [Fls.list] using g1, g2, g3, g4, fun c hc => ⟨List.mem_append_right _ (g5 c hc).1, fun hc' => ?_⟩, fun c hc => ?_, ?_⟩
      · rcases List.mem_append.1 hc' with h | h
        · exact n3 c h c (g5 c hc).1 rfl
        · exact (g5 c hc).2 h
      · rcases List.mem_append.1 hc with h | h
        · exact List.mem_append_left _ h
        · exact List.mem_append_right _ (g6 c h)
      · intro w' x ds ha hc hr hx
        simp only [Fls.list, List.modify_succ_cons, Fls.of]
        unfold FlsAt
        have h8 := (OwC.read v cs G1 h2).cells
        refine ⟨p, off, m, cs, rfl, rfl, (hc off (.inl (by omega))).trans h0, hz, fun j y hy => (hc (off + 1 + j) (.inl (by have := (List.getElem?_eq_some_iff.1 hy).1; omega))).trans (h1 j y hy), OwC.read _ _ _ (OwC.agree v cs G1 ha.left h2), g7 w' x ds ha.right hc hr hx⟩
end Go.Proofs.YtechaplindbfoaaGreatDoor.vl
namespace Go.Proofs.YtechaplindbfoaaGreatDoor.vl
open Go.ChangeShapes Go.WideShapes Go.ChangeAt Go.RowKit
open stp (St Pth St3)
set_option linter.unusedVariables false
set_option linter.unusedSimpArgs false
/-- two worlds that agree on these blocks but for eight cells -/
def AgreeBut (F : List Nat) (b o : Nat) (w w' : World) : Prop := ∀ c ∈ F, ∀ j, (c ≠ b ∨ j < o ∨ o + 8 ≤ j) → w'.cell? ⟨c, j, none⟩ = w.cell? ⟨c, j, none⟩
theorem AgreeBut.agree {F G : List Nat} {b o : Nat} {w w' : World} (h : AgreeBut F b o w w') (hs : ∀ c ∈ G, c ∈ F) (hb : b ∉ G) : Agree G w w' := fun c hc j => h c (hs c hc) j (.inl fun e => hb (e ▸ hc))
/-- one child of a value that is owned, and the value around it -/
theorem OwC.hole {w : World} {v : Vl} {cs : List Value} {F : List Nat} {s : St} {i b o : Nat} (h : OwC w v cs F) (hn : F.Nodup) (hi : chI v s = some i) (hl : Loc cs s i b o) :
    ∃ u us Fu Gr, getS v s = some u ∧ Row8 w b o us ∧ OwC w u us Fu ∧ Fu.Nodup ∧ (∀ c ∈ Fu, c ∈ F ∧ c ∉ Gr) ∧ (∀ c ∈ Gr, c ∈ F) ∧ b ∈ Gr ∧ ∀ w' x ds, AgreeBut Gr b o w w' → Row8 w' b o ds → VlC w' x ds → VlC w' (setS v s i x) cs := by
  obtain ⟨kd, bb, ni, f, tx, ty, its, fls⟩ := v
  have hg : getS (.mk kd bb ni f tx ty its fls) s = if s.it = true then its.list[i]? else (fls.list[i]?).map (·.2) := by simp only [getS, hi]
  have hset : ∀ x, setS (.mk kd bb ni f tx ty its fls) s i x = if s.it = true then .mk kd bb ni f tx ty (Vls.of (its.list.set i x)) fls else .mk kd bb ni f tx ty its (Fls.of (fls.list.modify i fun q => (q.1, x))) := fun x => rfl
  rw [chI_mk] at hi
  unfold OwC at h
  obtain ⟨ai, nI, ci, af, nf, cf, Fi, Ff, rfl, hI, hF, hni, hnf, hai, haf, hk1, hk2, hk3, hk4, hci, hcf, rfl⟩ := h
  rw [List.nodup_append] at hn
  obtain ⟨n1, n2, n3⟩ := hn
  obtain ⟨p, off, n, c, hl⟩ := hl
  by_cases ht : s.it = true
  · rw [if_pos ht] at hi hl hg
    obtain ⟨h6, rfl, rfl⟩ := hl
    simp at h6
    obtain ⟨rfl, rfl, rfl⟩ := h6
    by_cases hc : kd = 5 ∧ 0 ≤ s.ix ∧ s.ix < its.list.length
    · rw [if_pos hc] at hi
      obtain rfl := Option.some.inj hi
      rcases hI with ⟨h, _⟩ | ⟨p', G, e, rfl, hI⟩
      · cases h
      · simp only [Option.some.injEq, Addr.mk.injEq, and_true] at e
        obtain ⟨rfl, rfl⟩ := e
        have hlen := VlsAt.len its _ _ (OwsIn.read _ _ _ _ _ hI)
        rw [List.nodup_cons] at n1
        obtain ⟨u, us, Gi, Gr, g1, g2, g3, g4, g5, g6, g7⟩ := OwsIn.hole its b 0 nI G hI n1.2 s.ix.toNat (by omega)
        refine ⟨u, us, Gi, b :: (Gr ++ Ff), hg.trans g1, g2, g3, g4, fun x hx => ⟨?_, ?_⟩, fun x hx => ?_, List.mem_cons_self .., ?_⟩
        · exact List.mem_append_left _ (List.mem_cons_of_mem _ (g5 x hx).1)
        · intro hx'
          rcases List.mem_cons.1 hx' with rfl | hx'
          · exact n1.1 (g5 _ hx).1
          · rcases List.mem_append.1 hx' with hx' | hx'
            · exact (g5 x hx).2 hx'
            · exact n3 x (List.mem_cons_of_mem _ (g5 x hx).1) x hx' rfl
        · rcases List.mem_cons.1 hx with rfl | hx
          · exact List.mem_append_left _ (List.mem_cons_self ..)
          · rcases List.mem_append.1 hx with hx | hx
            · exact List.mem_append_left _ (List.mem_cons_of_mem _ (g6 x hx))
            · exact List.mem_append_right _ hx
        · intro w' x ds ha hr hx
          have a1 : Agree Gr w w' := ha.agree (fun c hc => List.mem_cons_of_mem _ (List.mem_append_left _ hc)) (fun h => n1.1 (g6 _ h))
          have a2 : Agree Ff w w' := ha.agree (fun c hc => List.mem_cons_of_mem _ (List.mem_append_right _ hc)) (fun h => n3 b (List.mem_cons_self ..) b h rfl)
          have hV := g7 w' x ds a1 (fun j hj => ha b (List.mem_cons_self ..) j (.inr hj)) hr hx
          rw [hset, if_pos ht]
          unfold VlC
          refine ⟨_, nI, ci, af, nf, cf, rfl, hV, ?_, hni, hnf, hai, haf, hk1, hk2, hk3, hk4, hci, hcf⟩
          rcases hF with ⟨rfl, rfl, rfl, _⟩ | ⟨p', G', rfl, rfl, hF⟩
          · unfold FlsAt; rfl
          · exact OwfIn.read _ _ _ _ _ (OwfIn.agree fls p' 0 nf G' a2 hF)
    · rw [if_neg hc] at hi
      cases hi
  · rw [if_neg ht] at hi hl hg
    obtain ⟨h7, rfl, rfl⟩ := hl
    simp at h7
    obtain ⟨rfl, rfl, rfl⟩ := h7
    by_cases hc : kd = 6
    · rw [if_pos hc] at hi
      rcases hF with ⟨h, _⟩ | ⟨p', G, e, rfl, hF⟩
      · cases h
      · simp only [Option.some.injEq, Addr.mk.injEq, and_true] at e
        obtain ⟨rfl, rfl⟩ := e
        have hlen := FlsAt.len fls _ _ (OwfIn.read _ _ _ _ _ hF)
        rw [List.nodup_cons] at n2
        obtain ⟨q, hq, _⟩ := findIdx_get hi
        obtain ⟨nm, u, us, Gi, Gr, g1, g2, g3, g4, g5, g6, g7⟩ := OwfIn.hole fls b 0 nf G hF n2.2 i (by rw [← hlen]; exact (List.getElem?_eq_some_iff.1 hq).1)
        refine ⟨u, us, Gi, b :: (Gr ++ Fi), hg.trans (by rw [g1]; rfl), g2, g3, g4, fun x hx => ⟨?_, ?_⟩, fun x hx => ?_, List.mem_cons_self .., ?_⟩
        · exact List.mem_append_right _ (List.mem_cons_of_mem _ (g5 x hx).1)
        · intro hx'
          rcases List.mem_cons.1 hx' with rfl | hx'
          · exact n2.1 (g5 _ hx).1
          · rcases List.mem_append.1 hx' with hx' | hx'
            · exact (g5 x hx).2 hx'
            · exact n3 x hx' x (List.mem_cons_of_mem _ (g5 x hx).1) rfl
        · rcases List.mem_cons.1 hx with rfl | hx
          · exact List.mem_append_right _ (List.mem_cons_self ..)
          · rcases List.mem_append.1 hx with hx | hx
            · exact List.mem_append_right _ (List.mem_cons_of_mem _ (g6 x hx))
            · exact List.mem_append_left _ hx
        · intro w' x ds ha hr hx
          have a1 : Agree Gr w w' := ha.agree (fun c hc => List.mem_cons_of_mem _ (List.mem_append_left _ hc)) (fun h => n2.1 (g6 _ h))
          have a2 : Agree Fi w w' := ha.agree (fun c hc => List.mem_cons_of_mem _ (List.mem_append_right _ hc)) (fun h => n3 b h b (List.mem_cons_self ..) rfl)
          have hV := g7 w' x ds a1 (fun j hj => ha b (List.mem_cons_self ..) j (.inr hj)) hr hx
          rw [hset, if_neg ht]
          unfold VlC
          refine ⟨ai, nI, ci, _, nf, cf, rfl, ?_, hV, hni, hnf, hai, haf, hk1, hk2, hk3, hk4, hci, hcf⟩
          rcases hI with ⟨rfl, rfl, rfl, _⟩ | ⟨p', G', rfl, rfl, hI⟩
          · unfold VlsAt; rfl
          · exact OwsIn.read _ _ _ _ _ (OwsIn.agree its p' 0 nI G' a2 hI)
    · rw [if_neg hc] at hi
      cases hi
end Go.Proofs.YtechaplindbfoaaGreatDoor.vl
namespace Go.Proofs.YtechaplindbfoaaGreatDoor.vl
open Go.ChangeShapes Go.WideShapes Go.ChangeAt Go.RowKit
open stp (St Pth St3)
set_option linter.unusedVariables false
set_option linter.unusedSimpArgs false
/-- a child put into a value of the call's own -/
theorem FrC.put {lo : Nat} {w w3 : World} {v : Vl} {cs : List Value} {F : List Nat} {s : St} {i b o : Nat} {x : Vl} {ds : List Value} (h : OwC w v cs F) (hn : F.Nodup) (hF : ∀ c ∈ F, lo ≤ c ∧ c < w3.heap.size) (hi : chI v s = some i) (hl : Loc cs s i b o)
    (ha : AgreeBut F b o w w3) (hr : Row8 w3 b o ds) (hx : FrC lo w3 x ds) : FrC lo w3 (setS v s i x) cs := by
  obtain ⟨u, us, Fu, Gr, g1, g2, g3, g4, g5, g6, g7, g8⟩ := h.hole hn hi hl
  intro w' hw
  refine g8 w' x ds (fun c hc j hj => (hw c j (hF c (g6 c hc)).1 (hF c (g6 c hc)).2).trans (ha c (g6 c hc) j hj)) (fun j y hy => (hw b (o + j) (hF b (g6 b g7)).1 (hF b (g6 b g7)).2).trans (hr j y hy)) (hx w' hw)
end Go.Proofs.YtechaplindbfoaaGreatDoor.vl
namespace Go.Proofs.YtechaplindbfoaaGreatDoor.og
open Go.ChangeShapes Go.WideShapes Go.ChangeAt Go.RowKit Go.Shelf
open Go.Sort hiding Below
open vl hiding cB cFl cS cF cI cK cIt
set_option linter.unusedVariables false
set_option linter.unusedSimpArgs false
theorem Gr.grow {w w' : World} (h : Gr w w') : ∃ q os, w' = Go.Sort.grow (w.drewN q) os := by
  refine ⟨w'.drawn - w.drawn, w'.heap.extract w.heap.size w'.heap.size, ?_⟩
  obtain ⟨⟨h1, h2, h3, h4, h5⟩, hd⟩ := h
  obtain ⟨hp, tp, dr, os, ou⟩ := w
  obtain ⟨hp', tp', dr', os', ou'⟩ := w'
  simp only at h1 h2 h3 h4 h5 hd
  subst h1 h2 h3
  simp only [Go.Sort.grow, World.drewN, World.mk.injEq, and_true, true_and]
  refine ⟨?_, by omega⟩
  apply Array.ext_getElem?
  intro k
  by_cases hk : k < hp.size
  · rw [h5 k hk, Array.getElem?_append_left hk]
  · rw [Array.getElem?_append_right (by omega)]
    by_cases hk2 : k < hp'.size
    · rw [Array.getElem?_eq_getElem hk2, Array.getElem?_eq_getElem (by simp; omega)]
      simp only [Array.getElem_extract]
      congr 2
      omega
    · rw [Array.getElem?_eq_none (by omega), Array.getElem?_eq_none (by simp; omega)]
/-- a member of a row that is sorted -/
def Mb (Q : Nat → Prop) (w0 : World) : Type := { x : ByteArray × Vl × List Value // x.1.size ≤ maxLen ∧ Small x.2.1 ∧ AvC Q w0 x.2.1 x.2.2 }
def Mb.pr {Q : Nat → Prop} {w0 : World} (x : Mb Q w0) : ByteArray × Vl := (x.1.1, x.1.2.1)
def Mb.enc {Q : Nat → Prop} {w0 : World} (x : Mb Q w0) : List Value := .string x.1.1 :: x.1.2.2
def Mb.cf {Q : Nat → Prop} {w0 : World} (x y : Mb Q w0) : Int := ordM x.pr y.pr
theorem Mb.len {Q : Nat → Prop} {w0 : World} (x : Mb Q w0) : x.enc.length = 9 := by unfold Mb.enc; rw [List.length_cons, x.2.2.2.cells]
theorem Mb.one {Q : Nat → Prop} {w0 : World} (x : Mb Q w0) : ∀ v ∈ x.enc, v.oneCell' = true := by
  have := one9 x.1.1 (AvC.read _ _ x.2.2.2)
  unfold Mb.enc
  simpa using this
theorem Mb.agree {Q : Nat → Prop} {w0 W : World} (p : Nat) (hp : Q p) (ha : ∀ b j, b ≠ p → b < w0.heap.size → W.cell? ⟨b, j, none⟩ = w0.cell? ⟨b, j, none⟩) (x : Mb Q w0) : AvC Q W x.1.2.1 x.1.2.2 :=
  AvC.agree (fun _ _ h => h) (fun b j hl hn => ha b j (fun e => hn (e ▸ hp)) hl) _ _ x.2.2.2
end Go.Proofs.YtechaplindbfoaaGreatDoor.og
namespace Go.Proofs.YtechaplindbfoaaGreatDoor.og
open Go.ChangeShapes Go.WideShapes Go.ChangeAt Go.RowKit
open vl hiding cB cFl cS cF cI cK cIt
set_option linter.unusedVariables false
set_option linter.unusedSimpArgs false
mutual
/-- a value with the members of every object in the opposite order -/
def turnV : Vl → Vl
  | .mk kd b n f tx ty its fls => .mk kd b n f tx ty (turnI its) (turnF fls .nil)
def turnI : Vls → Vls
  | .nil => .nil
  | .cons v r => .cons (turnV v) (turnI r)
def turnF : Fls → Fls → Fls
  | .nil, a => a
  | .cons nm v r, a => turnF r (.cons nm (turnV v) a)
end
/-- the members, turned -/
def rvF (fls : Fls) : List (ByteArray × Vl) := fls.list.reverse.map (fun q => (q.1, turnV q.2))
theorem OwsIn.there {w : World} {p : Nat} (hz : ∀ j, w.frozen? ⟨p, j, none⟩ = false) : ∀ (l : Vls) (off n : Nat) (G : List Nat), OwsIn w l p off n G → w.there p off (n * 8)
  | .nil, off, n, G, h => by unfold OwsIn at h; obtain ⟨rfl, -⟩ := h; intro j hj; omega
  | .cons v r, off, n, G, h => by
    unfold OwsIn at h
    obtain ⟨m, cs, G1, G2, rfl, h1, h2, h3, -⟩ := h
    have h8 := (OwC.read v cs G1 h2).cells
    intro j hj
    by_cases h : j < 8
    · refine ⟨?_, hz _⟩
      rw [h1 j cs[j] (List.getElem?_eq_getElem (by omega))]
      rfl
    · have := OwsIn.there hz r (off + 8) m G2 h3 (j - 8) (by omega)
      rwa [show off + 8 + (j - 8) = off + j by omega] at this
theorem OwfIn.there {w : World} {p : Nat} (hz : ∀ j, w.frozen? ⟨p, j, none⟩ = false) : ∀ (l : Fls) (off n : Nat) (G : List Nat), OwfIn w l p off n G → w.there p off (n * 9)
  | .nil, off, n, G, h => by unfold OwfIn at h; obtain ⟨rfl, -⟩ := h; intro j hj; omega
  | .cons nm v r, off, n, G, h => by
    unfold OwfIn at h
    obtain ⟨m, cs, G1, G2, rfl, h0, hz', h1, h2, h3, -⟩ := h
    have h8 := (OwC.read v cs G1 h2).cells
    intro j hj
    by_cases h : j < 9
    · refine ⟨?_, hz _⟩
      cases j with
      | zero => rw [Nat.add_zero, h0]; rfl
      | succ j =>
        rw [show off + (j + 1) = off + 1 + j by omega, h1 j cs[j] (List.getElem?_eq_getElem (by omega))]
        rfl
    · have := OwfIn.there hz r (off + 9) m G2 h3 (j - 9) (by omega)
      rwa [show off + 9 + (j - 9) = off + j by omega] at this
theorem OwsIn.row {Q : Nat → Prop} {w : World} {p : Nat} : ∀ (l : Vls) (off n : Nat) (G : List Nat), (∀ b ∈ G, ¬ Q b) → OwsIn w l p off n G → ∀ (i : Nat) (v : Vl), l.list[i]? = some v → ∃ us, Row8 w p (off + i * 8) us ∧ AvC Q w v us
  | .nil, off, n, G, hG, h, i, v, hv => by simp [Vls.list] at hv
  | .cons u r, off, n, G, hG, h, i, v, hv => by
    unfold OwsIn at h
    obtain ⟨m, cs, G1, G2, rfl, h1, h2, h3, rfl⟩ := h
    cases i with
    | zero =>
      simp [Vls.list] at hv
      subst hv
      exact ⟨cs, by simpa using h1, OwC.av _ _ _ (fun b hb => hG b (List.mem_append_left _ hb)) h2⟩
    | succ i =>
      obtain ⟨us, g1, g2⟩ := OwsIn.row r (off + 8) m G2 (fun b hb => hG b (List.mem_append_right _ hb)) h3 i v (by simpa [Vls.list] using hv)
      exact ⟨us, by rw [show off + (i + 1) * 8 = off + 8 + i * 8 by omega]; exact g1, g2⟩
end Go.Proofs.YtechaplindbfoaaGreatDoor.og
namespace Go.Proofs.YtechaplindbfoaaGreatDoor.og
open Go.ChangeShapes Go.WideShapes Go.ChangeAt Go.RowKit
open vl hiding cB cFl cS cF cI cK cIt
open stp (c3 c3_eq cB cB_tri)
set_option linter.unusedVariables false
set_option linter.unusedSimpArgs false
/-- two lists, element by element -/
def P2 {α β : Type} (R : α → β → Prop) : List α → List β → Prop
  | [], [] => True
  | a :: l, b :: r => R a b ∧ P2 R l r
  | [], _ :: _ => False
  | _ :: _, [] => False
theorem P2.imp {α β : Type} {R R' : α → β → Prop} : ∀ {l : List α} {r : List β}, P2 R l r → (∀ a ∈ l, ∀ b ∈ r, R a b → R' a b) → P2 R' l r
  | [], [], _, _ => trivial
  | a :: l, b :: r, h, hi => ⟨hi a (List.mem_cons_self ..) b (List.mem_cons_self ..) h.1, P2.imp h.2 (fun x hx y hy => hi x (List.mem_cons_of_mem _ hx) y (List.mem_cons_of_mem _ hy))⟩
  | [], _ :: _, h, _ => h.elim
  | _ :: _, [], h, _ => h.elim
theorem P2.symm {α β : Type} {R : α → β → Prop} : ∀ {l : List α} {r : List β}, P2 R l r → P2 (fun b a => R a b) r l
  | [], [], _ => trivial
  | a :: l, b :: r, h => ⟨h.1, P2.symm h.2⟩
  | [], _ :: _, h => h.elim
  | _ :: _, [], h => h.elim
theorem P2.split {α β : Type} {R : α → β → Prop} {b : β} {t : List β} : ∀ {l : List α} {s : List β}, P2 R l (s ++ b :: t) → ∃ s' a t', l = s' ++ a :: t' ∧ P2 R s' s ∧ R a b ∧ P2 R t' t
  | [], [], h => h.elim
  | [], _ :: _, h => h.elim
  | a :: l, [], h => ⟨[], a, l, rfl, trivial, h.1, h.2⟩
  | a :: l, c :: s, h => by
    obtain ⟨s', a', t', e, h1, h2, h3⟩ := P2.split (l := l) (s := s) h.2
    exact ⟨a :: s', a', t', by rw [e]; rfl, ⟨h.1, h1⟩, h2, h3⟩
mutual
/-- the same but for the members' order -/
def Pm : Vl → Vl → Prop
  | .mk kd b n f tx ty its fls, .mk kd' b' n' f' tx' ty' its' fls' => kdOf kd = kdOf kd' ∧ (if kdOf kd = 5 then PmI its its'.list else if kdOf kd = 6 then ∃ m, fls'.list.Perm m ∧ PmF fls m else leafV (kdOf kd) (.mk kd b n f tx ty its fls) (.mk kd' b' n' f' tx' ty' its' fls') = 0)
def PmI : Vls → List Vl → Prop
  | .nil, l => l = []
  | .cons v r, l => ∃ u l', l = u :: l' ∧ Pm v u ∧ PmI r l'
def PmF : Fls → List (ByteArray × Vl) → Prop
  | .nil, l => l = []
  | .cons nm v r, l => ∃ u l', l = (nm, u) :: l' ∧ Pm v u ∧ PmF r l'
end
theorem PmI.of : ∀ {its : Vls} {l : List Vl}, P2 Pm its.list l → PmI its l
  | .nil, [], _ => by unfold PmI; rfl
  | .nil, _ :: _, h => h.elim
  | .cons v r, [], h => h.elim
  | .cons v r, u :: l, h => by unfold PmI; exact ⟨u, l, rfl, h.1, PmI.of h.2⟩
theorem PmF.of : ∀ {fls : Fls} {l : List (ByteArray × Vl)}, P2 (fun p q => q.1 = p.1 ∧ Pm p.2 q.2) fls.list l → PmF fls l
  | .nil, [], _ => by unfold PmF; rfl
  | .nil, _ :: _, h => h.elim
  | .cons nm v r, [], h => h.elim
  | .cons nm v r, u :: l, h => by
    unfold PmF
    exact ⟨u.2, l, by rw [← show u.1 = nm from h.1.1], h.1.2, PmF.of h.2⟩
end Go.Proofs.YtechaplindbfoaaGreatDoor.og
namespace Go.Proofs.YtechaplindbfoaaGreatDoor.og
open Go.ChangeShapes Go.WideShapes Go.ChangeAt Go.RowKit
open vl hiding cB cFl cS cF cI cK cIt
open stp (c3 c3_eq cB cB_tri)
set_option linter.unusedVariables false
set_option linter.unusedSimpArgs false
theorem thn_zero (b : Int) : thn 0 b = b := if_pos rfl
theorem kdOf_five {k : Int} (h : kdOf k = 5) : k = 5 := by unfold kdOf at h; split at h <;> omega
theorem kdOf_six {k : Int} (h : kdOf k = 6) : k = 6 := by unfold kdOf at h; split at h <;> omega
theorem P2.self {α : Type} {R : α → α → Prop} : ∀ l : List α, (∀ x ∈ l, R x x) → P2 R l l
  | [], _ => trivial
  | a :: l, h => ⟨h a (List.mem_cons_self ..), P2.self l (fun x hx => h x (List.mem_cons_of_mem _ hx))⟩
theorem leaf_self (v : Vl) : leafV (kdW v) v v = 0 := by
  have := ordV_self v
  rw [ordV_thn, c3_eq rfl, thn_zero] at this
  exact this
theorem Pm.refl : ∀ v : Vl, Pm v v := by
  refine Vl.all ?_
  intro kd b n f tx ty its fls hI hF
  unfold Pm
  refine ⟨rfl, ?_⟩
  split
  · exact PmI.of (P2.self _ hI)
  · split
    · exact ⟨_, List.Perm.refl _, PmF.of (P2.self _ (fun q hq => ⟨rfl, hF q hq⟩))⟩
    · exact leaf_self (.mk kd b n f tx ty its fls)
end Go.Proofs.YtechaplindbfoaaGreatDoor.og
namespace Go.Proofs.YtechaplindbfoaaGreatDoor.og
open Go.ChangeShapes Go.WideShapes Go.ChangeAt Go.RowKit
open vl hiding cB cFl cS cF cI cK cIt
set_option linter.unusedVariables false
set_option linter.unusedSimpArgs false
/-- what lies there while a value is turned: w0 the world at the call, B2 the block of w, p and q the rows of its items and members; k items and m members are done -/
structure TnS (Q : Nat → Prop) (w0 : World) (B2 p q : Nat) (its : Vls) (fls : Fls) (nI nf : Nat) (cs ds : List Value) (k m : Nat) (w : World) : Prop where
  c0 : w.rangeAt w0.heap.size 0 cs
  c2 : w.rangeAt B2 0 ds
  th : w.there (w0.heap.size + 1) 0 8
  thI : w.there p 0 (nI * 8)
  thF : w.there q 0 (nf * 9)
  dI : ∀ (i : Nat) (v : Vl), i < k → its.list[i]? = some v → ∃ us, Row8 w p (i * 8) us ∧ AvC Q w (turnV v) us
  rI : ∀ (i : Nat) (v : Vl), k ≤ i → its.list[i]? = some v → ∃ us, Row8 w p (i * 8) us ∧ AvC Q w v us
  dF : ∀ (i : Nat) (x : ByteArray × Vl), i < m → (rvF fls)[i]? = some x → ∃ us, w.cell? ⟨q, i * 9, none⟩ = some (.string x.1) ∧ x.1.size ≤ maxLen ∧ Row8 w q (i * 9 + 1) us ∧ AvC Q w x.2 us
  bel : Below w0.heap.size w0 w
  siz : B2 < w.heap.size
theorem TnS.below {Q : Nat → Prop} {w0 : World} {B2 p q : Nat} {its : Vls} {fls : Fls} {nI nf : Nat} {cs ds : List Value} {k m : Nat} {w w' : World} (h : TnS Q w0 B2 p q its fls nI nf cs ds k m w) (hB : w0.heap.size + 1 < B2) (hp : nI = 0 ∨ p < B2) (hq : nf = 0 ∨ q < B2) (hb : Below w.heap.size w w') : TnS Q w0 B2 p q its fls nI nf cs ds k m w' where
  c0 := fun j u hu => (hb.cell (p := ⟨w0.heap.size, 0 + j, none⟩) (by have := h.siz; show w0.heap.size < _; omega)).trans (h.c0 j u hu)
  c2 := fun j u hu => (hb.cell (p := ⟨B2, 0 + j, none⟩) h.siz).trans (h.c2 j u hu)
  th := there_below h.th hb (by have := h.siz; omega)
  thI := by
    rcases hp with hp | hp
    · subst hp; intro j hj; omega
    · exact there_below h.thI hb (by have := h.siz; omega)
  thF := by
    rcases hq with hq | hq
    · subst hq; intro j hj; omega
    · exact there_below h.thF hb (by have := h.siz; omega)
  dI := fun i v hi hv => by
    obtain ⟨us, r1, r2⟩ := h.dI i v hi hv
    exact ⟨us, Row8.below r1 hb, r2.below hb⟩
  rI := fun i v hi hv => by
    obtain ⟨us, r1, r2⟩ := h.rI i v hi hv
    exact ⟨us, Row8.below r1 hb, r2.below hb⟩
  dF := fun i x hi hx => by
    obtain ⟨us, r0, rz, r1, r2⟩ := h.dF i x hi hx
    exact ⟨us, (hb.cell (World.block_lt_of_cell? _ _ r0)).trans r0, rz, Row8.below r1 hb, r2.below hb⟩
  bel := h.bel.trans (hb.mono h.bel.size)
  siz := Nat.lt_of_lt_of_le h.siz hb.size
end Go.Proofs.YtechaplindbfoaaGreatDoor.og
namespace Go.Proofs.YtechaplindbfoaaGreatDoor.og
open Go.ChangeShapes Go.WideShapes Go.ChangeAt Go.RowKit Go.Shelf
open vl hiding cB cFl cS cF cI cK cIt
open stp (c3 c3_lt c3_gt c3_eq cB cB_tri St)
attribute [local go_sem] Oper.semAt_some
set_option linter.unusedVariables false
set_option linter.unusedSimpArgs false
/-- a value's children, each with the step to it -/
def kids : Vl → List (St × Vl)
  | .mk kd _ _ _ _ _ its fls => if kd = 5 then its.list.zipIdx.map (fun p => (⟨⟨#[]⟩, (p.2 : Int), true⟩, p.1)) else if kd = 6 then fls.list.map (fun q => (⟨q.1, 0, false⟩, q.2)) else []
/-- a child as it is handed to yield: it can be read in w0 -/
def Kid (w0 : World) (ks : List (St × Vl)) : Type := { x : St × Vl × List Value // VlC w0 x.2.1 x.2.2 ∧ (x.1, x.2.1) ∈ ks }
def Kid.sv {w0 : World} {ks : List (St × Vl)} (x : Kid w0 ks) : St × Vl := (x.1.1, x.1.2.1)
theorem kids_list (b : Bool) (n : Int) (f : Nat) (tx ty : ByteArray) (its : Vls) (fls : Fls) : kids (.mk 5 b n f tx ty its fls) = its.list.zipIdx.map (fun p => (⟨⟨#[]⟩, (p.2 : Int), true⟩, p.1)) := by simp [kids]
theorem kids_obj (b : Bool) (n : Int) (f : Nat) (tx ty : ByteArray) (its : Vls) (fls : Fls) : kids (.mk 6 b n f tx ty its fls) = fls.list.map (fun q => (⟨q.1, 0, false⟩, q.2)) := by simp [kids]
theorem kids_none {kd : Int} (h5 : kd ≠ 5) (h6 : kd ≠ 6) (b : Bool) (n : Int) (f : Nat) (tx ty : ByteArray) (its : Vls) (fls : Fls) : kids (.mk kd b n f tx ty its fls) = [] := by simp [kids, h5, h6]
end Go.Proofs.YtechaplindbfoaaGreatDoor.og
namespace Go.Proofs.YtechaplindbfoaaGreatDoor.og
open Go.ChangeShapes Go.WideShapes Go.ChangeAt Go.RowKit Go.Shelf
open vl hiding cB cFl cS cF cI cK cIt
open stp (c3 c3_lt c3_gt c3_eq cB cB_tri St)
attribute [local go_sem] Oper.semAt_some
set_option linter.unusedVariables false
set_option linter.unusedSimpArgs false
mutual
/-- how many parts -/
def cnt : Vl → Nat
  | .mk kd _ _ _ _ _ its fls => 1 + (if kd = 5 then cntI its else if kd = 6 then cntF fls else 0)
def cntI : Vls → Nat
  | .nil => 0
  | .cons v r => cnt v + cntI r
def cntF : Fls → Nat
  | .nil => 0
  | .cons _ v r => cnt v + cntF r
end
theorem cntI_sum : ∀ l : Vls, cntI l = (l.list.map cnt).sum
  | .nil => by simp [cntI, Vls.list]
  | .cons v r => by rw [cntI, cntI_sum r]; simp [Vls.list]
theorem cntF_sum : ∀ l : Fls, cntF l = (l.list.map (fun q => cnt q.2)).sum
  | .nil => by simp [cntF, Fls.list]
  | .cons nm v r => by rw [cntF, cntF_sum r]; simp [Fls.list]
theorem zip_map {α β : Type} (g : α → β) : ∀ (l : List α) (i : Nat), (l.zipIdx i).map (fun p => g p.1) = l.map g
  | [], i => rfl
  | a :: l, i => by simp only [List.zipIdx_cons, List.map_cons]; rw [zip_map g l (i + 1)]
theorem kids_map {β : Type} (g : Vl → β) (kd : Int) (b : Bool) (n : Int) (f : Nat) (tx ty : ByteArray) (its : Vls) (fls : Fls) :
    (kids (.mk kd b n f tx ty its fls)).map (fun p => g p.2) = if kd = 5 then its.list.map g else if kd = 6 then fls.list.map (fun q => g q.2) else [] := by
  by_cases h5 : kd = 5
  · subst h5
    rw [kids_list, if_pos rfl, List.map_map]
    exact zip_map g its.list 0
  · by_cases h6 : kd = 6
    · subst h6
      rw [kids_obj, if_neg h5, if_pos rfl, List.map_map]
      rfl
    · rw [kids_none h5 h6, if_neg h5, if_neg h6]
      rfl
theorem cnt_kids (v : Vl) : cnt v = 1 + ((kids v).map (fun p => cnt p.2)).sum := by
  obtain ⟨kd, b, n, f, tx, ty, its, fls⟩ := v
  rw [kids_map, cnt, cntI_sum, cntF_sum]
  split
  · rfl
  · split <;> rfl
theorem mem_kids {P : Vl → Prop} {kd : Int} {b : Bool} {n : Int} {f : Nat} {tx ty : ByteArray} {its : Vls} {fls : Fls} (hI : ∀ v ∈ its.list, P v) (hF : ∀ q ∈ fls.list, P q.2) : ∀ p ∈ kids (.mk kd b n f tx ty its fls), P p.2 := by
  intro p hp
  have : P p.2 ∨ False := by
    have hm := List.mem_map_of_mem (f := fun p : St × Vl => p.2) hp
    rw [kids_map (fun v => v)] at hm
    split at hm
    · exact .inl (hI _ (by simpa using hm))
    · split at hm
      · simp only [List.mem_map] at hm
        obtain ⟨q, hq, e⟩ := hm
        exact .inl (e ▸ hF q hq)
      · simp at hm
  exact this.elim id False.elim
end Go.Proofs.YtechaplindbfoaaGreatDoor.og
namespace Go.Proofs.YtechaplindbfoaaGreatDoor.og
open Go.ChangeShapes Go.WideShapes Go.ChangeAt Go.RowKit
open vl hiding cB cFl cS cF cI cK cIt
set_option linter.unusedVariables false
set_option linter.unusedSimpArgs false
/-- what was there is there -/
def Gb (a w : World) : Prop := Below a.heap.size a w
theorem Gb.refl (a : World) : Gb a a := Below.refl _ _
theorem Gb.drew {a w : World} (h : Gb a w) : Gb a { w with drawn := w.drawn + 1 } := Below.drew h
theorem Gb.size {a w : World} (h : Gb a w) : a.heap.size ≤ w.heap.size := Below.size h
theorem Gb.trans {a w x : World} (h : Gb a w) (k : Below a.heap.size w x) : Gb a x := Below.trans h k
end Go.Proofs.YtechaplindbfoaaGreatDoor.og
namespace Go.Proofs.YtechaplindbfoaaGreatDoor.og
open Go.ChangeShapes Go.WideShapes Go.ChangeAt Go.RowKit
open vl hiding cB cFl cS cF cI cK cIt
open stp (c3 c3_lt c3_gt c3_eq cB cB_tri)
open mem (dec_fin dec_inf dec_nan word_of order_fin sv)
set_option linter.unusedVariables false
set_option linter.unusedSimpArgs false
set_option maxHeartbeats 4000000 in
theorem rkind_ok (v : Vl) (cs : List Value) (w w0 : World) (hv : VlC w0 v cs) : Calls Tryz.prog 115 #[.agg cs.toArray] w fun e w' => e = .returned (.int .i64 (kdV v)) ∧ Below w.heap.size w w' := by
  obtain ⟨kd, b, n, f, tx, ty, its, fls⟩ := v
  unfold VlC at hv
  obtain ⟨ai, ni, ci, af, nf, cf, rfl, -⟩ := hv
  unfold kdV
  have hB : Below w.heap.size w (w.alloc (.cells #[.int .i64 kd, .bool b, .int .i64 n, .float .f64 f, .string tx, .string ty, .slice ai ni ci, .slice af nf cf] 29)) := (Below.refl _ _).alloc (Nat.le_refl _) _
  by_cases h1 : kd < 0
  · have hr := hide (show kdOf kd = 0 by unfold kdOf; rw [if_pos (.inl h1)])
    go_enter Tryz.func115, Tryz.ntmps115
    go_wp2
    go_ret
    exact ⟨by rw [unhide hr]; rfl, hB⟩
  · by_cases h2 : 7 < kd
    · have hr := hide (show kdOf kd = 0 by unfold kdOf; rw [if_pos (.inr h2)])
      go_enter Tryz.func115, Tryz.ntmps115
      go_wp2
      go_ret
      exact ⟨by rw [unhide hr]; rfl, hB⟩
    · have hr := hide (show kdOf kd = kd by unfold kdOf; rw [if_neg (by omega)])
      go_enter Tryz.func115, Tryz.ntmps115
      go_wp2
      go_ret
      exact ⟨by rw [unhide hr]; rfl, hB⟩
end Go.Proofs.YtechaplindbfoaaGreatDoor.og
namespace Go.Proofs.YtechaplindbfoaaGreatDoor.og
open Go.ChangeShapes Go.WideShapes Go.ChangeAt Go.RowKit
open vl hiding cB cFl cS cF cI cK cIt
set_option linter.unusedVariables false
set_option linter.unusedSimpArgs false
/-- a new list that grows: what its elements' cells are -/
def GrV {E : Type} (R : E → List Value → Prop) (t : TypeId) (size : Nat) (B : Nat) (l : List E) (sl : Value) (w : World) : Prop := ∃ xss : List (List Value), w.ownsRow B t size sl l.length xss.flatten ∧ P2 R l xss
theorem P2.snoc {α β : Type} {R : α → β → Prop} {a : α} {b : β} (hab : R a b) : ∀ {l : List α} {r : List β}, P2 R l r → P2 R (l ++ [a]) (r ++ [b])
  | [], [], _ => ⟨hab, trivial⟩
  | _ :: _, _ :: _, h => ⟨h.1, P2.snoc hab h.2⟩
  | [], _ :: _, h => h.elim
  | _ :: _, [], h => h.elim
theorem GrV.nil {E : Type} {R : E → List Value → Prop} {t : TypeId} {size B : Nat} {w : World} : GrV R t size B [] (.slice none 0 0) w := ⟨[], ⟨by simp, .inl ⟨rfl, rfl⟩⟩, trivial⟩
theorem GrV.kept {E : Type} {R : E → List Value → Prop} {t : TypeId} {size B : Nat} {l : List E} {sl : Value} {w w' : World} {row : Option Nat} (h : GrV R t size B l sl w) (hg : w.grownBy w' row) (hne : sl.ownBlock = none ∨ sl.ownBlock ≠ row) : GrV R t size B l sl w' := by
  obtain ⟨xss, h1, h2⟩ := h
  exact ⟨xss, h1.kept hg hne, h2⟩
theorem GrV.lt {E : Type} {R : E → List Value → Prop} {t : TypeId} {size B : Nat} {l : List E} {sl : Value} {w : World} (h : GrV R t size B l sl w) : ∀ k, sl.ownBlock = some k → B ≤ k ∧ k < w.heap.size := by
  obtain ⟨xss, h1, h2⟩ := h
  exact h1.lt
theorem wp_grv {E : Type} {R : E → List Value → Prop} {P : Program} {t e : TypeId} {size bytes : Nat} {i : TypeInfo} {z : Value} {w : World} {ops : Array Oper} {rest : List Oper} {o : Oper} {a : Act} {Q : Exit → Act → World → Prop} (hgd : o.guard = none) (s x : Operand)
    (ho : o.op = .call { callee := .builtin .append, args := #[s, x], argTypes := #[t, t] }) (ht : P.underlying t = some (.slice e)) (hi : P.info? e = some i) (hz : i.zero = some z)
    (hsize : i.size = size) (hby : i.bytes = bytes) (hzs : z.cells.size = size) (hsz : 0 < size)
    (B : Nat) (l : List E) (sl : Value) (hs : a.eval s = sl) (hg : GrV R e size B l sl w) (v : E) (ds : List Value) (hv : R v ds) (hl : ds.length = size) (h1 : ∀ u ∈ ds, u.oneCell' = true)
    (N : Nat) (hN : N = w.heap.size) (hx : a.eval x = .slice (some ⟨N, 0, none⟩) 1 1) (hbytes : (l.length + 1) * bytes ≤ 140737488355328) (h63 : l.length + 1 ≤ maxLen) (hB : B ≤ w.heap.size)
    (h : ∀ g cap w', GrV R e size B (l ++ [v]) (.slice (some ⟨g, 0, none⟩) (l.length + 1) cap) w' → (w.alloc (.cells ds.toArray e)).grownBy w' sl.ownBlock → (sl.ownBlock = some g ∨ g = w.heap.size + 1) → g < w'.heap.size → wpList P ops Q rest (a.put o.dst (.slice (some ⟨g, 0, none⟩) (l.length + 1) cap)) w') : wpList P ops Q (o :: rest) a (w.alloc (.cells ds.toArray e)) := by
  subst hN
  obtain ⟨xss, hrow, hol⟩ := hg
  refine wpList_append_lies _ hgd s x t ho B e i z size bytes ht hi hz hsize hby hzs hsz sl l.length xss.flatten hs (World.ownsRow.alloc hrow _) ⟨w.heap.size, 0, none⟩ 1 1 ds hx (by rw [hl]; omega) (fun j u hu => by
    rw [Addr.add_mid, Nat.zero_add, World.cell?_alloc_at _ _ _ _ rfl]; simpa using hu) h1 (by omega) h63 hbytes (by simp; omega) (w.heap.size + 1) (by simp) ?_
  intro g cap w' hrow' hgr hat hlt
  exact h g cap w' ⟨xss ++ [ds], by simpa using hrow', hol.snoc hv⟩ hgr hat hlt
/-- the two lists of Children as they grow -/
structure ChS (W : World) (l4 : List (List Value)) (l5 : List Vl) (s4 s5 : Value) (w : World) : Prop where
  g4 : GrV (fun s cs => cs = s) 58 3 W.heap.size l4 s4 w
  g5 : GrV (fun v cs => VlC W v cs) 29 8 W.heap.size l5 s5 w
  ne : ∀ b, s4.ownBlock = some b → s5.ownBlock ≠ some b
  bel : Below W.heap.size W w
theorem ChS.nil (W : World) : ChS W [] [] (.slice none 0 0) (.slice none 0 0) W := ⟨GrV.nil, GrV.nil, fun b h => by simp [Value.ownBlock] at h, Below.refl _ _⟩
theorem infoSz : ∃ i z, Tryz.prog.info? 58 = some i ∧ i.zero = some z ∧ i.size = 3 ∧ i.bytes = 32 ∧ z.cells.size = 3 := by
  have hin : (Tryz.prog.info? 58).map (fun i => (i.bytes, i.size, i.zero.isSome, (i.zero.map (fun z => z.cells.size)))) = some (32, 3, true, some 3) := by kernel_rfl
  cases hq : Tryz.prog.info? 58 with
  | none => simp [hq] at hin
  | some i =>
    simp [hq] at hin
    obtain ⟨h1, h2, h3, z, hz, h4⟩ := hin
    exact ⟨i, z, rfl, hz, h2, h1, h4⟩
end Go.Proofs.YtechaplindbfoaaGreatDoor.og
namespace Go.Proofs.YtechaplindbfoaaGreatDoor.og
open Go.ChangeShapes Go.WideShapes Go.ChangeAt Go.RowKit
open vl hiding cB cFl cS cF cI cK cIt
set_option linter.unusedVariables false
set_option linter.unusedSimpArgs false
theorem buildS (x y z : Value) (hx : ∃ s, x = .string s) (hy : ∃ i, y = .int .i64 i) (hz : ∃ c, z = .bool c) (w : World) : (Instr.buildSlice 38 1 #[(0, .agg #[x, y, z])]).run Tryz.prog w = .ok (.slice (some ⟨w.heap.size, 0, none⟩) 1 1) (w.alloc (.cells #[x, y, z] 58)) := by
  obtain ⟨s, rfl⟩ := hx
  obtain ⟨i, rfl⟩ := hy
  obtain ⟨c, rfl⟩ := hz
  go_simp
end Go.Proofs.YtechaplindbfoaaGreatDoor.og
namespace Go.Proofs.YtechaplindbfoaaGreatDoor.og
open Go.ChangeShapes Go.WideShapes Go.ChangeAt Go.RowKit
open vl hiding cB cFl cS cF cI cK cIt
open stp (St)
set_option linter.unusedVariables false
set_option linter.unusedSimpArgs false
/-- a step's three cells -/
def stC (s : St) : List Value := [.string s.nm, .int .i64 s.ix, .bool s.it]
/-- the two lists of Children as they grow -/
structure CgS (V W : World) (l4 : List St) (l5 : List Vl) (s4 s5 : Value) (w : World) : Prop where
  g4 : GrV (fun s cs => cs = stC s) 58 3 W.heap.size l4 s4 w
  g5 : GrV (fun v cs => VlC V v cs) 29 8 W.heap.size l5 s5 w
  ne : ∀ b, s4.ownBlock = some b → s5.ownBlock ≠ some b
  bel : Below W.heap.size W w
theorem CgS.nil (V W : World) : CgS V W [] [] (.slice none 0 0) (.slice none 0 0) W := ⟨GrV.nil, GrV.nil, fun b h => by simp [Value.ownBlock] at h, Below.refl _ _⟩
theorem wp_cg4 {V W w : World} {l4 : List St} {l5 : List Vl} {s4 s5 : Value} {ops : Array Oper} {rest : List Oper} {o : Oper} {a : Act} {Q : Exit → Act → World → Prop} (hS : CgS V W l4 l5 s4 s5 w) (hgd : o.guard = none) (s x : Operand)
    (ho : o.op = .call { callee := .builtin .append, args := #[s, x], argTypes := #[38, 38] }) (hs : a.eval s = s4) (st : St) (ds : List Value) (hd : ds = stC st) (N : Nat) (hN : N = w.heap.size) (hx : a.eval x = .slice (some ⟨N, 0, none⟩) 1 1) (hn : l4.length + 1 ≤ 1256584717458)
    (h : ∀ g n cap w', CgS V W (l4 ++ [st]) l5 (.slice (some ⟨g, 0, none⟩) n cap) s5 w' → wpList Tryz.prog ops Q rest (a.put o.dst (.slice (some ⟨g, 0, none⟩) n cap)) w') : wpList Tryz.prog ops Q (o :: rest) a (w.alloc (.cells ds.toArray 58)) := by
  obtain ⟨i, z, hi, hz, hsz, hb, hc⟩ := infoSz
  have hlt4 := hS.g4.lt
  have hlt5 := hS.g5.lt
  refine wp_grv hgd s x ho Tryz.underlying38 hi hz hsz hb hc (by omega) W.heap.size l4 s4 hs hS.g4 st ds hd (by rw [hd]; rfl) (by rw [hd]; simp [stC, Value.oneCell']) N hN hx (by omega) (by unfold maxLen; omega) hS.bel.size ?_
  intro g cap w' hg hgr hat hlt
  refine h g _ cap w' ⟨hg, ?_, ?_, ?_⟩
  · refine (hS.g5.kept (World.grownBy_alloc w _ none) (by cases hv : s5.ownBlock <;> simp)).kept hgr ?_
    cases h5 : s5.ownBlock with
    | none => exact .inl rfl
    | some b => exact .inr (fun e => hS.ne b e.symm h5)
  · intro b hb' h5
    have hb' : g = b := by simpa [Value.ownBlock] using hb'
    subst hb'
    rcases hat with hat | hat
    · exact hS.ne _ hat h5
    · have := (hlt5 _ h5).2; omega
  · exact (hS.bel.alloc hS.bel.size _).grown hgr (by have := hS.bel.size; simp; omega) (fun k hk => (hlt4 k hk).1)
theorem wp_cg5 {V W w : World} {l4 : List St} {l5 : List Vl} {s4 s5 : Value} {ops : Array Oper} {rest : List Oper} {o : Oper} {a : Act} {Q : Exit → Act → World → Prop} (hS : CgS V W l4 l5 s4 s5 w) (hgd : o.guard = none) (s x : Operand)
    (ho : o.op = .call { callee := .builtin .append, args := #[s, x], argTypes := #[22, 22] }) (hs : a.eval s = s5) (v : Vl) (ds : List Value) (hv : VlC V v ds) (N : Nat) (hN : N = w.heap.size) (hx : a.eval x = .slice (some ⟨N, 0, none⟩) 1 1) (hn : l5.length + 1 ≤ 1256584717458)
    (h : ∀ g n cap w', CgS V W l4 (l5 ++ [v]) s4 (.slice (some ⟨g, 0, none⟩) n cap) w' → wpList Tryz.prog ops Q rest (a.put o.dst (.slice (some ⟨g, 0, none⟩) n cap)) w') : wpList Tryz.prog ops Q (o :: rest) a (w.alloc (.cells ds.toArray 29)) := by
  obtain ⟨i, z, hi, hz, hsz, hb, hc⟩ := infoVz
  have hlt4 := hS.g4.lt
  have hlt5 := hS.g5.lt
  have d1 := hv.one
  have hone : ∀ u ∈ ds, u.oneCell' = true := fun u hu => (Array.all_eq_true_iff_forall_mem.1 d1) u (by simpa using hu)
  refine wp_grv hgd s x ho Tryz.underlying22 hi hz hsz hb hc (by omega) W.heap.size l5 s5 hs hS.g5 v ds hv hv.cells hone N hN hx (by omega) (by unfold maxLen; omega) hS.bel.size ?_
  intro g cap w' hg hgr hat hlt
  refine h g _ cap w' ⟨?_, hg, ?_, ?_⟩
  · refine (hS.g4.kept (World.grownBy_alloc w _ none) (by cases hv : s4.ownBlock <;> simp)).kept hgr ?_
    cases h4 : s4.ownBlock with
    | none => exact .inl rfl
    | some b => exact .inr (fun e => hS.ne b h4 e.symm)
  · intro b hb' h5
    have h5 : g = b := by simpa [Value.ownBlock] using h5
    subst h5
    rcases hat with hat | hat
    · exact hS.ne _ hb' hat
    · have := (hlt4 _ hb').2; omega
  · exact (hS.bel.alloc hS.bel.size _).grown hgr (by have := hS.bel.size; simp; omega) (fun k hk => (hlt5 k hk).1)
end Go.Proofs.YtechaplindbfoaaGreatDoor.og
namespace Go.Proofs.YtechaplindbfoaaGreatDoor.og
open Go.ChangeShapes Go.WideShapes Go.ChangeAt Go.RowKit
open vl hiding cB cFl cS cF cI cK cIt
open stp (St)
set_option linter.unusedVariables false
set_option linter.unusedSimpArgs false
def CgAt (v : Vl) : Prop := ∀ (V : World) (cs : List Value) (w : World), Below V.heap.size V w → VlC V v cs → Calls Tryz.prog 98 #[.agg cs.toArray] w fun e w' => ∃ s4 s5, e = .returned (.tuple #[s4, s5]) ∧ CgS V w ((kids v).map Prod.fst) ((kids v).map Prod.snd) s4 s5 w'
theorem kids5_get {b : Bool} {n : Int} {f : Nat} {tx ty : ByteArray} {its : Vls} {fls : Fls} {k : Nat} {v : Vl} (h : its.list[k]? = some v) : (kids (.mk 5 b n f tx ty its fls))[k]? = some (⟨⟨#[]⟩, (k : Int), true⟩, v) := by
  simp [kids, List.getElem?_zipIdx, h]
theorem kids6_get {b : Bool} {n : Int} {f : Nat} {tx ty : ByteArray} {its : Vls} {fls : Fls} {k : Nat} {nm : ByteArray} {v : Vl} (h : fls.list[k]? = some (nm, v)) : (kids (.mk 6 b n f tx ty its fls))[k]? = some (⟨nm, 0, false⟩, v) := by
  simp [kids, h]
theorem kids5_len (b : Bool) (n : Int) (f : Nat) (tx ty : ByteArray) (its : Vls) (fls : Fls) : (kids (.mk 5 b n f tx ty its fls)).length = its.list.length := by simp [kids]
theorem kids6_len (b : Bool) (n : Int) (f : Nat) (tx ty : ByteArray) (its : Vls) (fls : Fls) : (kids (.mk 6 b n f tx ty its fls)).length = fls.list.length := by simp [kids]
theorem kids_0 {kd : Int} {b : Bool} {n : Int} {f : Nat} {tx ty : ByteArray} {its : Vls} {fls : Fls} (h5 : kd ≠ 5) (h6 : kd ≠ 6) : kids (.mk kd b n f tx ty its fls) = [] := by simp [kids, h5, h6]
theorem CgS.older {V W W' w : World} {l4 : List St} {l5 : List Vl} {s4 s5 : Value} (h : CgS V W' l4 l5 s4 s5 w) (hb : Below W.heap.size W W') : CgS V W l4 l5 s4 s5 w := by
  have hs := hb.size
  have wk : ∀ {t : TypeId} {size : Nat} {sl : Value} {n : Nat} {xs : List Value}, w.ownsRow W'.heap.size t size sl n xs → w.ownsRow W.heap.size t size sl n xs := fun {t size sl n xs} h => ⟨h.1, h.2.imp id (fun ⟨g, cap, cur, e, hg, r⟩ => ⟨g, cap, cur, e, by omega, r⟩)⟩
  obtain ⟨⟨x4, a4, b4⟩, ⟨x5, a5, b5⟩, ne, bel⟩ := h
  exact ⟨⟨x4, wk a4, b4⟩, ⟨x5, wk a5, b5⟩, ne, hb.trans (bel.mono hs)⟩
set_option maxHeartbeats 8000000 in
set_option maxRecDepth 6000 in
theorem cg_5 (b : Bool) (n : Int) (f : Nat) (tx ty : ByteArray) (its : Vls) (fls : Fls) (hsl : its.list.length ≤ 1256584717458) : CgAt (.mk 5 b n f tx ty its fls) := by
  intro V cs w hVw hv
  have gv := hv
  unfold VlC at gv
  obtain ⟨ai, ni, ci, af, nf, cf, rfl, vI, vF, q1, q2, q3, q4, q5, q6, q7, q8, q9, q10⟩ := gv
  obtain ⟨W, eW⟩ : ∃ W, W = w.alloc (.cells #[.int .i64 5, .bool b, .int .i64 n, .float .f64 f, .string tx, .string ty, .slice ai ni ci, .slice af nf cf] 29) := ⟨_, rfl⟩
  have BW : Below w.heap.size w W := by rw [eW]; exact (Below.refl _ _).alloc (Nat.le_refl _) _
  have R_a := hide (show Row8 W w.heap.size 0 [.int .i64 5, .bool b, .int .i64 n, .float .f64 f, .string tx, .string ty, .slice ai ni ci, .slice af nf cf] from fun j x hx => by
    rw [eW, Nat.zero_add, World.cell?_alloc_at _ _ _ _ rfl]; simpa using hx)
  have V_a := hide (VlC.below BW _ _ (VlC.below hVw _ _ hv))
  have EW := hide eW
  clear eW q5 q6 q7 q8
  go_enter Tryz.func98, Tryz.ntmps98
  go_wp2_with (rw [← unhide EW]; refine wpList_load_mid (by rfl) 29 _ (by rfl) w.heap.size 0 (by rfl) [.int .i64 5, .bool b, .int .i64 n, .float .f64 f, .string tx, .string ty, .slice ai ni ci, .slice af nf cf] _ (unhide R_a) Tryz.underlying29 (by rfl) infoV ?_)
  clear EW
  refine (rkind_ok (.mk 5 b n f tx ty its fls) _ _ _ (unhide V_a)).mono ?_
  rintro e w1 ⟨rfl, g⟩
  rw [show kdV (Vl.mk 5 b n f tx ty its fls) = 5 from (by decide : kdOf 5 = 5)]
  have R_a := hide (Row8.below (unhide R_a) g)
  have BW : Below w.heap.size w w1 := BW.trans (g.mono BW.size)
  have HBW := hide BW
  have HI := hide vI
  have HF := hide vF
  have HVW := hide hVw
  have HVW1 := hide (show Below V.heap.size V w1 from hVw.trans (BW.mono hVw.size))
  clear g V_a hv vI vF
  have x : w1.cell? ⟨w.heap.size, 6, none⟩ = some (.slice ai ni ci) := (unhide R_a) 6 _ rfl
  have l1 := VlsAt.len its _ _ (unhide HI)
  have BN : ni ≤ 1256584717458 := by omega
  have L1 := hide l1
  have HN0 := hide (CgS.nil V w1)
  have LK := hide ((kids5_len b n f tx ty its fls).trans l1)
  have HK := hide (fun (k : Nat) => @kids5_get b n f tx ty its fls k)
  clear l1
  obtain ⟨ks, eks⟩ : ∃ ks, ks = kids (.mk 5 b n f tx ty its fls) := ⟨_, rfl⟩
  rw [← eks] at LK HK
  have EKS := hide eks
  clear eks
  go_wp2_with fail
  go_loopw [6, 4, 5] (fun vi v4 v5 wr => ∃ (k : Nat) (s4 s5 : Value), k ≤ ni ∧ vi = .int .i64 k ∧ v4 = s4 ∧ v5 = s5 ∧ vl.Hid (CgS V w1 ((ks.take k).map Prod.fst) ((ks.take k).map Prod.snd) s4 s5 wr)) (fun vi _ _ _ => ni - (intOf vi).toNat)
  case atStart => exact ⟨0, _, _, Nat.zero_le _, rfl, rfl, rfl, by rw [List.take_zero]; exact HN0⟩
  case round =>
    clear x HN0
    obtain ⟨k, s4, s5, hk1, rfl, rfl, rfl, HS⟩ := hrel
    have x : wr.cell? ⟨w.heap.size, 6, none⟩ = some (.slice ai ni ci) := (Row8.below (unhide R_a) (unhide HS).bel) 6 _ rfl
    by_cases hlt : k < ni
    · have ki : (k : Int) < (ni : Int) := by omega
      obtain ⟨p, off, v, us, rfl, hg, hr, hv⟩ := VlsAt.get its _ _ (unhide HI) k hlt
      have Hg := hide (unhide HK k hg)
      have iu : (Tryz.prog.info? 29).map (·.size) = some us.length := by rw [hv.cells]; exact infoV
      have hr := Row8.below hr (unhide HVW1)
      have hbS := buildS (Value.string { data := #[] }) (Value.int .i64 k) (Value.bool true) ⟨_, rfl⟩ ⟨_, rfl⟩ ⟨_, rfl⟩
      have hbV := buildV hv
      have hn4 : ((ks.take k).map Prod.fst).length + 1 ≤ 1256584717458 := by have h1 := List.length_take_le k ks; rw [List.length_map]; omega
      have hn5 : ((ks.take k).map Prod.snd).length + 1 ≤ 1256584717458 := by have h1 := List.length_take_le k ks; rw [List.length_map]; omega
      have A := hide (And.intro hr (And.intro hv (And.intro iu (And.intro True.intro (And.intro hbS (And.intro hbV (And.intro hn4 hn5)))))))
      clear hr hv iu hbS hbV hn4 hn5 hg
      go_wp2_with (first
        | refine wpList_buildOne (by rfl) 38 _ (by rfl) (.agg #[Value.string { data := #[] }, Value.int .i64 k, Value.bool true]) _ (by rfl) ((unhide A).2.2.2.2.1 wr) ?_
        | (at_builtin; refine wp_cg4 (unhide HS) (by rfl) _ _ (by rfl) (by rfl) ⟨⟨#[]⟩, (k : Int), true⟩ [Value.string { data := #[] }, Value.int .i64 k, Value.bool true] rfl wr.heap.size rfl (by rfl) (unhide A).2.2.2.2.2.2.1 ?_; intro g4 n4 c4 w3 hS3; have x3 : w3.cell? ⟨w.heap.size, 6, none⟩ = some (.slice (some ⟨p, off, none⟩) ni ci) := (Row8.below (unhide R_a) hS3.bel) 6 _ rfl; have HS3 := hide hS3; clear hS3)
        | refine wpList_load_mid (by rfl) 29 _ (by rfl) p (off + k * 8) (by rfl) us _ (Row8.below (unhide A).1 (unhide HS3).bel) Tryz.underlying29 (by rfl) (unhide A).2.2.1 ?_
        | refine wpList_buildOne (by rfl) 22 _ (by rfl) (.agg us.toArray) _ (by rfl) ((unhide A).2.2.2.2.2.1 w3) ?_
        | (at_builtin; refine wp_cg5 (unhide HS3) (by rfl) _ _ (by rfl) (by rfl) v us (unhide A).2.1 w3.heap.size rfl (by rfl) (unhide A).2.2.2.2.2.2.2 ?_; intro g5 n5 c5 w4 hS4; have HS4 := hide hS4; clear hS4))
      go_roundw
      case rel => exact ⟨k + 1, _, _, by omega, by go_num, rfl, rfl, by rw [List.take_add_one, unhide Hg, List.map_append, List.map_append]; exact HS4⟩
      case measure => simp [intOf]; omega
    · obtain rfl : k = ni := by omega
      have hS := unhide HS
      rw [List.take_of_length_le (Nat.le_of_eq (unhide LK))] at hS
      have HR := hide (hS.older (unhide HBW))
      clear hS HS
      go_wp2
      go_ret2
      rw [← unhide EKS]
      exact ⟨_, _, rfl, unhide HR⟩
set_option maxHeartbeats 8000000 in
set_option maxRecDepth 6000 in
theorem cg_6 (b : Bool) (n : Int) (f : Nat) (tx ty : ByteArray) (its : Vls) (fls : Fls) (hsl : fls.list.length ≤ 1099511627776) : CgAt (.mk 6 b n f tx ty its fls) := by
  intro V cs w hVw hv
  have gv := hv
  unfold VlC at gv
  obtain ⟨ai, ni, ci, af, nf, cf, rfl, vI, vF, q1, q2, q3, q4, q5, q6, q7, q8, q9, q10⟩ := gv
  obtain ⟨W, eW⟩ : ∃ W, W = w.alloc (.cells #[.int .i64 6, .bool b, .int .i64 n, .float .f64 f, .string tx, .string ty, .slice ai ni ci, .slice af nf cf] 29) := ⟨_, rfl⟩
  have BW : Below w.heap.size w W := by rw [eW]; exact (Below.refl _ _).alloc (Nat.le_refl _) _
  have R_a := hide (show Row8 W w.heap.size 0 [.int .i64 6, .bool b, .int .i64 n, .float .f64 f, .string tx, .string ty, .slice ai ni ci, .slice af nf cf] from fun j x hx => by
    rw [eW, Nat.zero_add, World.cell?_alloc_at _ _ _ _ rfl]; simpa using hx)
  have V_a := hide (VlC.below BW _ _ (VlC.below hVw _ _ hv))
  have EW := hide eW
  clear eW q5 q6 q7 q8
  go_enter Tryz.func98, Tryz.ntmps98
  go_wp2_with (rw [← unhide EW]; refine wpList_load_mid (by rfl) 29 _ (by rfl) w.heap.size 0 (by rfl) [.int .i64 6, .bool b, .int .i64 n, .float .f64 f, .string tx, .string ty, .slice ai ni ci, .slice af nf cf] _ (unhide R_a) Tryz.underlying29 (by rfl) infoV ?_)
  clear EW
  refine (rkind_ok (.mk 6 b n f tx ty its fls) _ _ _ (unhide V_a)).mono ?_
  rintro e w1 ⟨rfl, g⟩
  rw [show kdV (Vl.mk 6 b n f tx ty its fls) = 6 from (by decide : kdOf 6 = 6)]
  have R_a := hide (Row8.below (unhide R_a) g)
  have BW : Below w.heap.size w w1 := BW.trans (g.mono BW.size)
  have HBW := hide BW
  have HI := hide vI
  have HF := hide vF
  have HVW := hide hVw
  have HVW1 := hide (show Below V.heap.size V w1 from hVw.trans (BW.mono hVw.size))
  clear g V_a hv vI vF
  have x : w1.cell? ⟨w.heap.size, 7, none⟩ = some (.slice af nf cf) := (unhide R_a) 7 _ rfl
  have l1 := FlsAt.len fls _ _ (unhide HF)
  have BN : nf ≤ 1256584717458 := by omega
  have L1 := hide l1
  have HN0 := hide (CgS.nil V w1)
  have LK := hide ((kids6_len b n f tx ty its fls).trans l1)
  have HK := hide (fun (k : Nat) => @kids6_get b n f tx ty its fls k)
  clear l1
  obtain ⟨ks, eks⟩ : ∃ ks, ks = kids (.mk 6 b n f tx ty its fls) := ⟨_, rfl⟩
  rw [← eks] at LK HK
  have EKS := hide eks
  clear eks
  go_wp2_with fail
  go_loopw [7, 4, 5] (fun vi v4 v5 wr => ∃ (k : Nat) (s4 s5 : Value), k ≤ nf ∧ vi = .int .i64 k ∧ v4 = s4 ∧ v5 = s5 ∧ vl.Hid (CgS V w1 ((ks.take k).map Prod.fst) ((ks.take k).map Prod.snd) s4 s5 wr)) (fun vi _ _ _ => nf - (intOf vi).toNat)
  case atStart => exact ⟨0, _, _, Nat.zero_le _, rfl, rfl, rfl, by rw [List.take_zero]; exact HN0⟩
  case round =>
    clear x HN0
    obtain ⟨k, s4, s5, hk1, rfl, rfl, rfl, HS⟩ := hrel
    have x : wr.cell? ⟨w.heap.size, 7, none⟩ = some (.slice af nf cf) := (Row8.below (unhide R_a) (unhide HS).bel) 7 _ rfl
    by_cases hlt : k < nf
    · have ki : (k : Int) < (nf : Int) := by omega
      obtain ⟨p, off, nm, v, us, rfl, hg, hn0, hz, hr, hv⟩ := FlsAt.get fls _ _ (unhide HF) k hlt
      have Hg := hide (unhide HK k hg)
      have hn1 : w1.cell? ⟨p, off + k * 9, none⟩ = some (.string nm) := (Below.cell (unhide HVW1) (p := ⟨p, off + k * 9, none⟩) (World.block_lt_of_cell? V _ hn0)).trans hn0
      have cn : wr.cell? ⟨p, off + k * 9, none⟩ = some (.string nm) := (Below.cell (unhide HS).bel (p := ⟨p, off + k * 9, none⟩) (World.block_lt_of_cell? w1 _ hn1)).trans hn1
      clear hn0 hn1
      have iu : (Tryz.prog.info? 29).map (·.size) = some us.length := by rw [hv.cells]; exact infoV
      have hr := Row8.below hr (unhide HVW1)
      have hbS := buildS (Value.string nm) (Value.int .i64 0) (Value.bool false) ⟨_, rfl⟩ ⟨_, rfl⟩ ⟨_, rfl⟩
      have hbV := buildV hv
      have hn4 : ((ks.take k).map Prod.fst).length + 1 ≤ 1256584717458 := by have h1 := List.length_take_le k ks; rw [List.length_map]; omega
      have hn5 : ((ks.take k).map Prod.snd).length + 1 ≤ 1256584717458 := by have h1 := List.length_take_le k ks; rw [List.length_map]; omega
      have A := hide (And.intro hr (And.intro hv (And.intro iu (And.intro True.intro (And.intro hbS (And.intro hbV (And.intro hn4 hn5)))))))
      clear hr hv iu hbS hbV hn4 hn5 hg
      go_wp2_with (first
        | refine wpList_buildOne (by rfl) 38 _ (by rfl) (.agg #[Value.string nm, Value.int .i64 0, Value.bool false]) _ (by rfl) ((unhide A).2.2.2.2.1 wr) ?_
        | (at_builtin; refine wp_cg4 (unhide HS) (by rfl) _ _ (by rfl) (by rfl) ⟨nm, 0, false⟩ [Value.string nm, Value.int .i64 0, Value.bool false] rfl wr.heap.size rfl (by rfl) (unhide A).2.2.2.2.2.2.1 ?_; intro g4 n4 c4 w3 hS3; have x3 : w3.cell? ⟨w.heap.size, 7, none⟩ = some (.slice (some ⟨p, off, none⟩) nf cf) := (Row8.below (unhide R_a) hS3.bel) 7 _ rfl; have HS3 := hide hS3; clear hS3)
        | refine wpList_load_mid (by rfl) 29 _ (by rfl) p (off + k * 9 + 1) (by rfl) us _ (Row8.below (unhide A).1 (unhide HS3).bel) Tryz.underlying29 (by rfl) (unhide A).2.2.1 ?_
        | refine wpList_buildOne (by rfl) 22 _ (by rfl) (.agg us.toArray) _ (by rfl) ((unhide A).2.2.2.2.2.1 w3) ?_
        | (at_builtin; refine wp_cg5 (unhide HS3) (by rfl) _ _ (by rfl) (by rfl) v us (unhide A).2.1 w3.heap.size rfl (by rfl) (unhide A).2.2.2.2.2.2.2 ?_; intro g5 n5 c5 w4 hS4; have HS4 := hide hS4; clear hS4))
      go_roundw
      case rel => exact ⟨k + 1, _, _, by omega, by go_num, rfl, rfl, by rw [List.take_add_one, unhide Hg, List.map_append, List.map_append]; exact HS4⟩
      case measure => simp [intOf]; omega
    · obtain rfl : k = nf := by omega
      have hS := unhide HS
      rw [List.take_of_length_le (Nat.le_of_eq (unhide LK))] at hS
      have HR := hide (hS.older (unhide HBW))
      clear hS HS
      go_wp2
      go_ret2
      rw [← unhide EKS]
      exact ⟨_, _, rfl, unhide HR⟩
set_option maxHeartbeats 8000000 in
set_option maxRecDepth 6000 in
theorem cg_0 (kd : Int) (b : Bool) (n : Int) (f : Nat) (tx ty : ByteArray) (its : Vls) (fls : Fls) (K : Int) (hk : kdOf kd = K) (h5 : K ≠ 5) (h6 : K ≠ 6) : CgAt (.mk kd b n f tx ty its fls) := by
  intro V cs w hVw hv
  have gv := hv
  unfold VlC at gv
  obtain ⟨ai, ni, ci, af, nf, cf, rfl, vI, vF, q1, q2, q3, q4, q5, q6, q7, q8, q9, q10⟩ := gv
  obtain ⟨W, eW⟩ : ∃ W, W = w.alloc (.cells #[.int .i64 kd, .bool b, .int .i64 n, .float .f64 f, .string tx, .string ty, .slice ai ni ci, .slice af nf cf] 29) := ⟨_, rfl⟩
  have BW : Below w.heap.size w W := by rw [eW]; exact (Below.refl _ _).alloc (Nat.le_refl _) _
  have R_a := hide (show Row8 W w.heap.size 0 [.int .i64 kd, .bool b, .int .i64 n, .float .f64 f, .string tx, .string ty, .slice ai ni ci, .slice af nf cf] from fun j x hx => by
    rw [eW, Nat.zero_add, World.cell?_alloc_at _ _ _ _ rfl]; simpa using hx)
  have V_a := hide (VlC.below BW _ _ (VlC.below hVw _ _ hv))
  have EW := hide eW
  clear eW q5 q6 q7 q8
  go_enter Tryz.func98, Tryz.ntmps98
  go_wp2_with (rw [← unhide EW]; refine wpList_load_mid (by rfl) 29 _ (by rfl) w.heap.size 0 (by rfl) [.int .i64 kd, .bool b, .int .i64 n, .float .f64 f, .string tx, .string ty, .slice ai ni ci, .slice af nf cf] _ (unhide R_a) Tryz.underlying29 (by rfl) infoV ?_)
  clear EW
  refine (rkind_ok (.mk kd b n f tx ty its fls) _ _ _ (unhide V_a)).mono ?_
  rintro e w1 ⟨rfl, g⟩
  rw [show kdV (Vl.mk kd b n f tx ty its fls) = K from hk]
  have R_a := hide (Row8.below (unhide R_a) g)
  have BW : Below w.heap.size w w1 := BW.trans (g.mono BW.size)
  have HBW := hide BW
  have HI := hide vI
  have HF := hide vF
  have HVW := hide hVw
  have HVW1 := hide (show Below V.heap.size V w1 from hVw.trans (BW.mono hVw.size))
  clear g V_a hv vI vF
  have h5' : kd ≠ 5 := fun e => h5 (by rw [← hk, e]; decide)
  have h6' : kd ≠ 6 := fun e => h6 (by rw [← hk, e]; decide)
  go_wp2
  go_ret2
  rw [kids_0 h5' h6']
  exact ⟨_, _, rfl, (CgS.nil V w1).older (unhide HBW)⟩
theorem cg_ok (v : Vl) (hv : Small v) : CgAt v := by
  obtain ⟨kd, b, n, f, tx, ty, its, fls⟩ := v
  unfold Small at hv
  by_cases h5 : kdOf kd = 5
  · obtain rfl := kdOf_five h5
    exact cg_5 _ _ _ _ _ _ _ hv.1
  · by_cases h6 : kdOf kd = 6
    · obtain rfl := kdOf_six h6
      exact cg_6 _ _ _ _ _ _ _ hv.2.1
    · exact cg_0 _ _ _ _ _ _ _ _ _ rfl h5 h6
end Go.Proofs.YtechaplindbfoaaGreatDoor.og
namespace Go.Proofs.YtechaplindbfoaaGreatDoor.og
open Go.ChangeShapes Go.WideShapes Go.ChangeAt Go.RowKit
open vl hiding cB cFl cS cF cI cK cIt
open stp (St Pth St3)
set_option linter.unusedVariables false
set_option linter.unusedSimpArgs false
/-- a new list of steps -/
abbrev GrS (B : Nat) (l : List St) (sl : Value) (w : World) : Prop := GrV (fun s cs => cs = stC s) 58 3 B l sl w
theorem pth_get {w : World} {a : Option Addr} {n : Nat} {ss : List St} (h : Pth w a n ss) {k : Nat} {s : St} (hs : ss[k]? = some s) : ∃ b off, a = some ⟨b, off, none⟩ ∧ w.rangeAt b (off + k * 3) (stC s) := by
  obtain ⟨hl, hc⟩ := h
  have hk := (List.getElem?_eq_some_iff.1 hs).1
  rcases hc with h0 | ⟨b, off, rfl, hlt, hc⟩
  · omega
  · refine ⟨b, off, rfl, fun j u hu => ?_⟩
    obtain ⟨s', hs', h3⟩ := hc k (by omega)
    obtain rfl : s = s' := by rw [hs] at hs'; simpa using hs'
    unfold St3 at h3
    have hj : j < 3 := by have := (List.getElem?_eq_some_iff.1 hu).1; simpa [stC] using this
    rcases (by omega : j = 0 ∨ j = 1 ∨ j = 2) with rfl | rfl | rfl
    · simp [stC] at hu; rw [← hu]; exact h3.1
    · simp [stC] at hu; rw [← hu]; exact h3.2.1
    · simp [stC] at hu; rw [← hu]; exact h3.2.2
theorem buildS1 (s : St) (w : World) : (Instr.buildSlice 38 1 #[(0, .agg (stC s).toArray)]).run Tryz.prog w = .ok (.slice (some ⟨w.heap.size, 0, none⟩) 1 1) (w.alloc (.cells (stC s).toArray 58)) := by
  simp only [stC]; go_simp
theorem infoS3 : (Tryz.prog.info? 58).map (·.size) = some 3 := by kernel_rfl
theorem wp_lg {W w : World} {l : List St} {sl : Value} {ops : Array Oper} {rest : List Oper} {o : Oper} {a : Act} {Q : Exit → Act → World → Prop} (hG : GrS W.heap.size l sl w) (hB : Gb W w) (hgd : o.guard = none) (s x : Operand)
    (ho : o.op = .call { callee := .builtin .append, args := #[s, x], argTypes := #[38, 38] }) (hs : a.eval s = sl) (t : St) (N : Nat) (hN : N = w.heap.size) (hx : a.eval x = .slice (some ⟨N, 0, none⟩) 1 1) (hn : l.length + 1 ≤ 1048577)
    (h : ∀ g n cap w', GrS W.heap.size (l ++ [t]) (.slice (some ⟨g, 0, none⟩) n cap) w' → Gb W w' → wpList Tryz.prog ops Q rest (a.put o.dst (.slice (some ⟨g, 0, none⟩) n cap)) w') : wpList Tryz.prog ops Q (o :: rest) a (w.alloc (.cells (stC t).toArray 58)) := by
  obtain ⟨i, z, hi, hz, hsz, hb, hc⟩ := infoSz
  have hlt := hG.lt
  have hsB := hB.size
  refine wp_grv hgd s x ho Tryz.underlying38 hi hz hsz hb hc (by omega) W.heap.size l sl hs hG t (stC t) rfl rfl (by simp [stC, Value.oneCell']) N hN hx (by omega) (by unfold maxLen; omega) hsB ?_
  intro g cap w' hg hgr hat hlt'
  exact h g _ cap w' hg (Below.trans hB (((Below.refl _ _).alloc hsB _).grown hgr (by simp; omega) (fun q hq => (hlt q hq).1)))
theorem GrS.older {B B' : Nat} {l : List St} {sl : Value} {w : World} (h : GrS B l sl w) (hb : B' ≤ B) : GrS B' l sl w := by
  obtain ⟨xss, h1, h2⟩ := h
  exact ⟨xss, ⟨h1.1, h1.2.imp id (fun ⟨g, cap, cur, e, hg, r⟩ => ⟨g, cap, cur, e, by omega, r⟩)⟩, h2⟩
set_option maxHeartbeats 8000000 in
set_option maxRecDepth 6000 in
/-- ref03.longer: a path and one more step, in new memory -/
theorem longer_ok (ss : List St) (s : St) (ap : Option Addr) (n c : Nat) (w : World) (hp : Pth w ap n ss) (hn : n ≤ 1048576) :
    Calls Tryz.prog 99 #[.slice ap n c, .agg (stC s).toArray] w fun e w' => ∃ sl, e = .returned sl ∧ GrS w.heap.size (ss ++ [s]) sl w' ∧ Below w.heap.size w w' := by
  have hlen := hp.len
  obtain ⟨W, eW⟩ : ∃ W, W = w.alloc (.cells (stC s).toArray 58) := ⟨_, rfl⟩
  have EW0 := hide eW
  have BW : Below w.heap.size w W := by rw [eW]; exact (Below.refl _ _).alloc (Nat.le_refl _) _
  have SW : w.heap.size < W.heap.size := by rw [eW]; simp
  have R_s := hide (show W.rangeAt w.heap.size 0 (stC s) from fun j u hu => by
    rw [Nat.zero_add, eW, World.cell?_alloc_at _ _ _ _ rfl]; simpa using hu)
  have HP := hide (hp.below BW)
  obtain ⟨i, z, hi, hz, hsz, hby, hcz⟩ := infoSz
  obtain ⟨X, hmk, hrow, hgr⟩ := run_make_own W W.heap.size 38 58 i z 3 Tryz.underlying38 hi hz hsz .i64 .i64 (n + 1) (by rw [hby]; omega) (by unfold maxLen; omega) (Nat.le_refl _)
  have BX : Below W.heap.size W X := (Below.refl _ _).grown hgr (Nat.le_refl _) (fun k hk => by cases hk)
  have eSW : W.heap.size = w.heap.size + 1 := by rw [unhide EW0]; simp
  have G0 := hide (show GrS W.heap.size [] (.slice (some ⟨W.heap.size, 0, none⟩) 0 (n + 1)) X from ⟨[], hrow, trivial⟩)
  have hn1 : (((n + 1 : Nat) : Int)) = (n : Int) + 1 := by omega
  rw [hn1] at hmk
  have EW := hide eW
  clear eW hp hrow hgr hi hz hsz hby hcz
  go_enter Tryz.func99, Tryz.ntmps99
  have eW2 := unhide EW
  rw [eW2] at hmk
  go_wp2_with fail
  clear hmk eW2
  go_loopw [6, 5] (fun vi v5 wr => ∃ (k : Nat) (sl : Value), k ≤ n ∧ vi = .int .i64 k ∧ v5 = sl ∧ vl.Hid (GrS W.heap.size (ss.take k) sl wr) ∧ vl.Hid (Gb W wr)) (fun vi _ _ => n - (intOf vi).toNat)
  case atStart => exact ⟨0, _, Nat.zero_le _, rfl, rfl, by rw [List.take_zero, ← eSW]; exact G0, BX⟩
  case round =>
    clear G0 BX
    obtain ⟨k, sl, hk, rfl, rfl, HG, HB⟩ := hrel
    by_cases hlt : k < n
    · have ki : (k : Int) < (n : Int) := by omega
      obtain ⟨t, ht⟩ : ∃ t, ss[k]? = some t := ⟨_, List.getElem?_eq_getElem (by omega)⟩
      obtain ⟨p, off, rfl, hr⟩ := pth_get (unhide HP) ht
      have hlp : p < W.heap.size := World.block_lt_of_cell? W _ (hr 0 _ rfl)
      have hr' := hide (show wr.rangeAt p (off + k * 3) (stC t) from fun j u hu => (Below.cell (unhide HB) (p := ⟨p, off + k * 3 + j, none⟩) hlp).trans (hr j u hu))
      have Ht := hide ht
      have hbS := hide (buildS1 t wr)
      have hnk := hide (show (ss.take k).length + 1 ≤ 1048577 by have := List.length_take_le k ss; omega)
      clear hr ht
      go_wp2_with (first
        | refine wpList_load_mid (by rfl) 58 _ (by rfl) p (off + k * 3) (by rfl) (stC t) _ (unhide hr') Tryz.underlying58 (by rfl) infoS3 ?_
        | refine wpList_buildOne (by rfl) 38 _ (by rfl) (.agg (stC t).toArray) _ (by rfl) (unhide hbS) ?_
        | (at_builtin; refine wp_lg (unhide HG) (unhide HB) (by rfl) _ _ (by rfl) (by rfl) t wr.heap.size rfl (by rfl) (unhide hnk) ?_; intro g n4 cap w4 g4 b4; have HG4 := hide g4; have HB4 := hide b4; clear g4 b4))
      go_roundw
      case rel => exact ⟨k + 1, _, by omega, by go_num, rfl, by rw [List.take_add_one, unhide Ht]; exact HG4, HB4⟩
      case measure => simp [intOf]; omega
    · obtain rfl : k = n := by omega
      have hG := unhide HG
      rw [List.take_of_length_le (Nat.le_of_eq hlen)] at hG
      have HG2 := hide hG
      have hls : w.heap.size < W.heap.size := SW
      have hr' := hide (show wr.rangeAt w.heap.size 0 (stC s) from fun j u hu => (Below.cell (unhide HB) (p := ⟨w.heap.size, 0 + j, none⟩) hls).trans (unhide R_s j u hu))
      have hbS := hide (buildS1 s wr)
      have hnk := hide (show ss.length + 1 ≤ 1048577 by omega)
      clear hG HG
      go_wp2_with (first
        | refine wpList_load_mid (by rfl) 58 _ (by rfl) w.heap.size 0 (by rfl) (stC s) _ (unhide hr') Tryz.underlying58 (by rfl) infoS3 ?_
        | refine wpList_buildOne (by rfl) 38 _ (by rfl) (.agg (stC s).toArray) _ (by rfl) (unhide hbS) ?_
        | (at_builtin; refine wp_lg (unhide HG2) (unhide HB) (by rfl) _ _ (by rfl) (by rfl) s wr.heap.size rfl (by rfl) (unhide hnk) ?_; intro g n4 cap w4 g4 b4; have HG4 := hide g4; have HB4 := hide b4; clear g4 b4))
      go_ret
      exact ⟨_, rfl, (unhide HG4).older (Nat.le_of_lt SW), BW.trans (Below.mono (unhide HB4) BW.size)⟩
end Go.Proofs.YtechaplindbfoaaGreatDoor.og
namespace Go.Proofs.YtechaplindbfoaaGreatDoor.og
open Go.ChangeShapes Go.WideShapes Go.ChangeAt Go.RowKit
open vl hiding cB cFl cS cF cI cK cIt
open stp (St Pth St3)
set_option linter.unusedVariables false
set_option linter.unusedSimpArgs false
mutual
/-- all parts of a value with their paths, in order -/
def pts : Vl → List St → List (List St × Vl)
  | .mk kd b n f tx ty its fls, p => (p, .mk kd b n f tx ty its fls) :: (if kd = 5 then ptsI its 0 p else if kd = 6 then ptsF fls p else [])
def ptsI : Vls → Nat → List St → List (List St × Vl)
  | .nil, _, _ => []
  | .cons v r, i, p => pts v (p ++ [⟨⟨#[]⟩, (i : Int), true⟩]) ++ ptsI r (i + 1) p
def ptsF : Fls → List St → List (List St × Vl)
  | .nil, _ => []
  | .cons nm v r, p => pts v (p ++ [⟨nm, 0, false⟩]) ++ ptsF r p
end
theorem ptsI_flat : ∀ (l : Vls) (i : Nat) (p : List St), ptsI l i p = ((l.list.zipIdx i).map (fun q => ((⟨⟨#[]⟩, (q.2 : Int), true⟩ : St), q.1))).flatMap (fun q => pts q.2 (p ++ [q.1]))
  | .nil, i, p => by simp [ptsI, Vls.list]
  | .cons v r, i, p => by rw [ptsI, ptsI_flat r]; simp [Vls.list, List.zipIdx_cons]
theorem ptsF_flat : ∀ (l : Fls) (p : List St), ptsF l p = (l.list.map (fun q => ((⟨q.1, 0, false⟩ : St), q.2))).flatMap (fun q => pts q.2 (p ++ [q.1]))
  | .nil, p => by simp [ptsF, Fls.list]
  | .cons nm v r, p => by rw [ptsF, ptsF_flat r]; simp [Fls.list]
theorem pts_kids (v : Vl) (p : List St) : pts v p = (p, v) :: (kids v).flatMap (fun q => pts q.2 (p ++ [q.1])) := by
  obtain ⟨kd, b, n, f, tx, ty, its, fls⟩ := v
  rw [pts, ptsI_flat, ptsF_flat]
  unfold kids
  simp only
  split
  · rfl
  · split
    · rfl
    · rfl
mutual
theorem pts_len : ∀ (v : Vl) (p : List St), (pts v p).length = cnt v
  | .mk kd b n f tx ty its fls, p => by
    rw [pts, cnt, List.length_cons]
    split
    · rw [ptsI_len its 0 p]; omega
    · split
      · rw [ptsF_len fls p]; omega
      · simp
theorem ptsI_len : ∀ (l : Vls) (i : Nat) (p : List St), (ptsI l i p).length = cntI l
  | .nil, i, p => by simp [ptsI, cntI]
  | .cons v r, i, p => by rw [ptsI, List.length_append, pts_len v, ptsI_len r, cntI]
theorem ptsF_len : ∀ (l : Fls) (p : List St), (ptsF l p).length = cntF l
  | .nil, p => by simp [ptsF, cntF]
  | .cons nm v r, p => by rw [ptsF, List.length_append, pts_len v, ptsF_len r, cntF]
end
/-- a part as pergolaref03 keeps it: its path lies in a block of its own, its value is read in the older world V -/
def OwP (V : World) (w : World) (q : List St × Vl) (cs : List Value) (F : List Nat) : Prop :=
  ∃ (ap : Option Addr) (n c : Nat) (us : List Value), cs = .slice ap n c :: us ∧ VlC V q.2 us ∧ n = q.1.length ∧ ((q.1 = [] ∧ F = []) ∨ ∃ p, ap = some ⟨p, 0, none⟩ ∧ F = [p] ∧ ∀ (j : Nat) (s : St), q.1[j]? = some s → w.rangeAt p (j * 3) (stC s))
theorem agP (V : World) : ∀ (w w' : World) (q : List St × Vl) (cs : List Value) (F : List Nat), Agree F w w' → OwP V w q cs F → OwP V w' q cs F := by
  rintro w w' q cs F ha ⟨ap, n, c, us, h1, h2, h3, h4⟩
  refine ⟨ap, n, c, us, h1, h2, h3, ?_⟩
  rcases h4 with h4 | ⟨p, h5, rfl, h6⟩
  · exact .inl h4
  · exact .inr ⟨p, h5, rfl, fun j s hs i u hu => (ha p (List.mem_singleton.2 rfl) _).trans (h6 j s hs i u hu)⟩
/-- an element of a new list -/
theorem GrV.get {E : Type} {R : E → List Value → Prop} {t : TypeId} {size B : Nat} {sl : Value} {w : World} {l : List E} (h : GrV R t size B l sl w) (hR : ∀ e cs, R e cs → cs.length = size) : ∀ {k : Nat} {e : E}, l[k]? = some e → ∃ g cap cs, sl = .slice (some ⟨g, 0, none⟩) l.length cap ∧ R e cs ∧ w.rangeAt g (k * size) cs := by
  intro k e hk
  obtain ⟨xss, h1, h2⟩ := h
  have hc := fun (g : Nat) (hg : sl.ownBlock = some g) => h1.cells hg
  have key : ∀ {l : List E} {xss : List (List Value)} {k : Nat}, P2 R l xss → l[k]? = some e → ∃ cs, R e cs ∧ ∀ j u, cs[j]? = some u → xss.flatten[k * size + j]? = some u := by
    intro l
    induction l with
    | nil => intro xss k _ hk; simp at hk
    | cons a r ih =>
      intro xss k hp hk
      match xss, hp with
      | x :: xs, hp =>
        have hx := hR _ _ hp.1
        cases k with
        | zero =>
          obtain rfl : a = e := by simpa using hk
          refine ⟨x, hp.1, fun j u hu => ?_⟩
          rw [List.flatten_cons, Nat.zero_mul, Nat.zero_add, List.getElem?_append_left (List.getElem?_eq_some_iff.1 hu).1]
          exact hu
        | succ k =>
          obtain ⟨cs, c1, c2⟩ := ih hp.2 (by simpa using hk)
          refine ⟨cs, c1, fun j u hu => ?_⟩
          rw [List.flatten_cons, List.getElem?_append_right (by rw [hx, Nat.succ_mul]; omega), hx, show (k + 1) * size + j - size = k * size + j by rw [Nat.succ_mul]; omega]
          exact c2 j u hu
  obtain ⟨cs, c1, c2⟩ := key h2 hk
  rcases h1.2 with ⟨rfl, h0⟩ | ⟨g, cap, cur, rfl, hg, hh, hc1, hc2, r⟩
  · have := (List.getElem?_eq_some_iff.1 hk).1
    omega
  · exact ⟨g, cap, cs, rfl, c1, fun j u hu => by have := hc g rfl _ u (c2 j u hu); rw [Addr.add_mid, Nat.zero_add] at this; exact this⟩
/-- the two lists stay where nothing of theirs is touched -/
theorem CgS.keep {V W w w' : World} {l4 : List St} {l5 : List Vl} {s4 s5 : Value} (h : CgS V W l4 l5 s4 s5 w) (hb : Below W.heap.size w w') (h4 : ∀ b, s4.ownBlock = some b → w'.heap[b]? = w.heap[b]?) (h5 : ∀ b, s5.ownBlock = some b → w'.heap[b]? = w.heap[b]?) : CgS V W l4 l5 s4 s5 w' := by
  have kp : ∀ {t : TypeId} {size : Nat} {sl : Value} {n : Nat} {xs : List Value}, (∀ b, sl.ownBlock = some b → w'.heap[b]? = w.heap[b]?) → w.ownsRow W.heap.size t size sl n xs → w'.ownsRow W.heap.size t size sl n xs := fun {t size sl n xs} hk h => ⟨h.1, h.2.imp id (fun ⟨g, cap, cur, e, hg, hh, r⟩ => ⟨g, cap, cur, e, hg, (hk g (by rw [e]; rfl)).trans hh, r⟩)⟩
  obtain ⟨⟨x4, a4, b4⟩, ⟨x5, a5, b5⟩, ne, bel⟩ := h
  exact ⟨⟨x4, kp h4 a4, b4⟩, ⟨x5, kp h5 a5, b5⟩, ne, bel.trans hb⟩
theorem wpO_growA {E : Type} {Ow : World → E → List Value → List Nat → Prop} (ha : ∀ w w' e cs F, Agree F w w' → Ow w e cs F → Ow w' e cs F) {P : Program} {t e : TypeId} {size bytes : Nat} {i : TypeInfo} {z : Value} {w : World} {o : Oper} {a : Act} {K : Act → World → Prop} {Q : Exit → Act → World → Prop} (s x : Operand)
    (ho : o.op = .call { callee := .builtin .append, args := #[s, x], argTypes := #[t, t] }) (ht : P.underlying t = some (.slice e)) (hi : P.info? e = some i) (hz : i.zero = some z)
    (hsize : i.size = size) (hby : i.bytes = bytes) (hzs : z.cells.size = size) (hsz : 0 < size)
    (B : Nat) (l : List E) (sl : Value) (G : List Nat) (hs : a.eval s = sl) (hg : Grow Ow e size w B l sl G) (v : E) (ds : List Value) (G' : List Nat) (hv : Ow w v ds G') (hl : ds.length = size) (h1 : ∀ u ∈ ds, u.oneCell' = true)
    (hn' : G'.Nodup) (hr' : ∀ b ∈ G', B ≤ b ∧ b < w.heap.size ∧ b ∉ G ∧ sl.ownBlock ≠ some b) (hf' : Fz w G') (N : Nat) (hN : N = w.heap.size) (hx : a.eval x = .slice (some ⟨N, 0, none⟩) 1 1) (hbytes : (l.length + 1) * bytes ≤ 140737488355328) (h63 : l.length + 1 ≤ maxLen) (hB : B ≤ w.heap.size)
    (h : ∀ sl' w', Grow Ow e size w' B (l ++ [v]) sl' (G ++ G') → Below B w w' → (∀ b, b < w.heap.size → sl.ownBlock ≠ some b → w'.heap[b]? = w.heap[b]?) → (∀ k, sl'.ownBlock = some k → sl.ownBlock = some k ∨ w.heap.size ≤ k) → K (a.put o.dst sl') w') : o.wp P a (w.alloc (.cells ds.toArray e)) K Q := by
  subst hN
  obtain ⟨xss, hrow, hol⟩ := hg.row
  refine wp_append_lies _ s x t ho B e i z size bytes ht hi hz hsize hby hzs hsz sl l.length xss.flatten hs (World.ownsRow.alloc hrow _) ⟨w.heap.size, 0, none⟩ 1 1 ds hx (by rw [hl]; omega) (fun j u hu => by
    rw [Addr.add_mid, Nat.zero_add, World.cell?_alloc_at _ _ _ _ rfl]; simpa using hu) h1 (by omega) h63 hbytes (by simp; omega) (w.heap.size + 1) (by simp) ?_
  intro g cap w' hrow' hgr hat hlt
  have hold : ∀ b, b < w.heap.size → sl.ownBlock ≠ some b → w'.heap[b]? = w.heap[b]? := fun b hb hne => by
    rw [hgr.block b (by simp; omega) (fun e => hne e.symm)]
    exact Below.heap_alloc w _ b hb
  have hsz' : w.heap.size ≤ w'.heap.size := by have := hgr.size; simp at this; omega
  refine h _ w' ⟨?_, ?_, ?_, ?_, xss ++ [ds], ?_, ?_⟩ (((Below.refl _ _).alloc hB _).grown hgr (by simp; omega) (fun k hk => (hrow.lt k hk).1)) hold (fun k hk => by
    have hk : g = k := Option.some.inj hk
    subst hk
    rcases hat with hat | hat
    · exact .inl hat
    · exact .inr (by omega))
  · rw [List.nodup_append]
    exact ⟨hg.nodup, hn', fun x hx y hy e => (hr' y hy).2.2.1 (e ▸ hx)⟩
  · intro b hb
    rcases List.mem_append.1 hb with hb | hb
    · exact ⟨(hg.rng b hb).1, Nat.lt_of_lt_of_le (hg.rng b hb).2 hsz'⟩
    · exact ⟨(hr' b hb).1, Nat.lt_of_lt_of_le (hr' b hb).2.1 hsz'⟩
  · intro b hb e
    have hgb : g = b := Option.some.inj e
    subst hgb
    have hlt' : g < w.heap.size := by
      rcases List.mem_append.1 hb with hb | hb
      · exact (hg.rng g hb).2
      · exact (hr' g hb).2.1
    rcases hat with hat | hat
    · rcases List.mem_append.1 hb with hb | hb
      · exact hg.own g hb hat
      · exact (hr' g hb).2.2.2 hat
    · omega
  · intro b hb j
    rcases List.mem_append.1 hb with hb | hb
    · exact (frozen_blk (hold b (hg.rng b hb).2 (hg.own b hb)) j).trans (hg.fz b hb j)
    · exact (frozen_blk (hold b (hr' b hb).2.1 (hr' b hb).2.2.2) j).trans (hf' b hb j)
  · simpa using hrow'
  · refine OwL.agree ha (fun b hb j => ?_) (OwL.snoc hv hol)
    rcases List.mem_append.1 hb with hb | hb
    · exact cell_blk (hold b (hg.rng b hb).2 (hg.own b hb)) j
    · exact cell_blk (hold b (hr' b hb).2.1 (hr' b hb).2.2.2) j
end Go.Proofs.YtechaplindbfoaaGreatDoor.og
namespace Go.Proofs.YtechaplindbfoaaGreatDoor.og
open Go.ChangeShapes Go.WideShapes Go.ChangeAt Go.RowKit
open vl hiding cB cFl cS cF cI cK cIt
open stp (St Pth St3)
set_option linter.unusedVariables false
set_option linter.unusedSimpArgs false
/-- a path in a block of its own -/
def PO (w : World) (path : List St) (ap : Option Addr) (n : Nat) (F : List Nat) : Prop :=
  n = path.length ∧ ((path = [] ∧ F = []) ∨ ∃ p, ap = some ⟨p, 0, none⟩ ∧ F = [p] ∧ ∀ (j : Nat) (s : St), path[j]? = some s → w.rangeAt p (j * 3) (stC s))
theorem PO.agree {w w' : World} {path : List St} {ap : Option Addr} {n : Nat} {F : List Nat} (h : PO w path ap n F) (ha : ∀ b ∈ F, w'.heap[b]? = w.heap[b]?) : PO w' path ap n F := by
  obtain ⟨h1, h2⟩ := h
  refine ⟨h1, ?_⟩
  rcases h2 with h2 | ⟨p, e, rfl, h2⟩
  · exact .inl h2
  · exact .inr ⟨p, e, rfl, fun j s hs i u hu => (cell_blk (ha p (List.mem_singleton.2 rfl)) _).trans (h2 j s hs i u hu)⟩
theorem PO.pth {w : World} {path : List St} {ap : Option Addr} {n : Nat} {F : List Nat} (h : PO w path ap n F) : Pth w ap n path := by
  obtain ⟨h1, h2⟩ := h
  refine ⟨h1.symm, ?_⟩
  rcases h2 with ⟨rfl, -⟩ | ⟨p, rfl, rfl, h2⟩
  · exact .inl (by simpa using h1)
  · by_cases h0 : n = 0
    · exact .inl h0
    · refine .inr ⟨p, 0, rfl, ?_, fun i hi => ?_⟩
      · obtain ⟨s, hs⟩ : ∃ s, path[0]? = some s := ⟨_, List.getElem?_eq_getElem (by omega)⟩
        exact World.block_lt_of_cell? w _ (h2 0 s hs 0 _ rfl)
      · obtain ⟨s, hs⟩ : ∃ s, path[i]? = some s := ⟨_, List.getElem?_eq_getElem (by omega)⟩
        refine ⟨s, hs, ?_⟩
        have := h2 i s hs
        rw [Nat.zero_add]
        exact ⟨this 0 _ rfl, this 1 _ rfl, this 2 _ rfl⟩
theorem PO.own {V w : World} {path : List St} {ap : Option Addr} {n c : Nat} {F : List Nat} {v : Vl} {cs : List Value} (h : PO w path ap n F) (hv : VlC V v cs) : OwP V w (path, v) (.slice ap n c :: cs) F := ⟨ap, n, c, cs, rfl, hv, h.1, h.2⟩
theorem PO.of_grs {w : World} {B : Nat} {path : List St} {sl : Value} (hne : path ≠ []) (h : GrS B path sl w) : ∃ g cap, sl = .slice (some ⟨g, 0, none⟩) path.length cap ∧ PO w path (some ⟨g, 0, none⟩) path.length [g] ∧ B ≤ g ∧ g < w.heap.size ∧ Fz w [g] := by
  have hl : 0 < path.length := List.length_pos_iff.2 hne
  obtain ⟨g, cap, cs, e, -, -⟩ := GrV.get h (fun e cs h => by rw [h]; rfl) (List.getElem?_eq_getElem hl)
  have hlt := h.lt g (by rw [e]; rfl)
  have hfz : ∀ j, w.frozen? ⟨g, j, none⟩ = false := by
    obtain ⟨xss, h1, -⟩ := h
    rw [e] at h1
    exact fun j => h1.frozenAt j
  refine ⟨g, cap, e, ⟨rfl, .inr ⟨g, rfl, rfl, fun j s hs => ?_⟩⟩, hlt.1, hlt.2, fun b hb j => by rw [List.mem_singleton.1 hb]; exact hfz j⟩
  obtain ⟨g', cap', cs', e', h1, h2⟩ := GrV.get h (fun e cs h => by rw [h]; rfl) hs
  rw [e] at e'
  simp only [Value.slice.injEq, Option.some.injEq, Addr.mk.injEq, and_true] at e'
  obtain ⟨rfl, -⟩ := e'
  rw [h1] at h2
  exact h2
theorem infoPz : ∃ i z, Tryz.prog.info? 101 = some i ∧ i.zero = some z ∧ i.size = 9 ∧ i.bytes = 136 ∧ z.cells.size = 9 := by
  have hin : (Tryz.prog.info? 101).map (fun i => (i.bytes, i.size, i.zero.isSome, (i.zero.map (fun z => z.cells.size)))) = some (136, 9, true, some 9) := by kernel_rfl
  cases hq : Tryz.prog.info? 101 with
  | none => simp [hq] at hin
  | some i =>
    simp [hq] at hin
    obtain ⟨h1, h2, h3, z, hz, h4⟩ := hin
    exact ⟨i, z, rfl, hz, h2, h1, h4⟩
theorem buildP {V : World} {v : Vl} {ds : List Value} (h : VlC V v ds) (ap : Option Addr) (n c : Nat) (w : World) : (Instr.buildSlice 98 1 #[(0, .agg (Value.slice ap n c :: ds).toArray)]).run Tryz.prog w = .ok (.slice (some ⟨w.heap.size, 0, none⟩) 1 1) (w.alloc (.cells (Value.slice ap n c :: ds).toArray 101)) := by
  cases v
  unfold VlC at h
  obtain ⟨_, _, _, _, _, _, rfl, -⟩ := h
  go_simp
/-- one part more -/
theorem wp_part {V w : World} {l : List (List St × Vl)} {sl : Value} {G F : List Nat} {path : List St} {ap : Option Addr} {n c : Nat} {v : Vl} {ds : List Value} {ops : Array Oper} {rest : List Oper} {o : Oper} {a : Act} {Q : Exit → Act → World → Prop}
    (hG : Grow (OwP V) 101 9 w V.heap.size l sl G) (hB : V.heap.size ≤ w.heap.size) (hP : PO w path ap n F) (hv : VlC V v ds) (hF : F.Nodup ∧ (∀ b ∈ F, V.heap.size ≤ b ∧ b < w.heap.size ∧ b ∉ G ∧ sl.ownBlock ≠ some b) ∧ Fz w F) (hgd : o.guard = none) (s x : Operand)
    (ho : o.op = .call { callee := .builtin .append, args := #[s, x], argTypes := #[98, 98] }) (hs : a.eval s = sl) (N : Nat) (hN : N = w.heap.size) (hx : a.eval x = .slice (some ⟨N, 0, none⟩) 1 1) (hn : l.length + 1 ≤ 1048576)
    (h : ∀ aj nj cj w', Grow (OwP V) 101 9 w' V.heap.size (l ++ [(path, v)]) (.slice aj nj cj) (G ++ F) → Below V.heap.size w w' → (∀ b, b < w.heap.size → sl.ownBlock ≠ some b → w'.heap[b]? = w.heap[b]?) → (∀ k, (Value.slice aj nj cj).ownBlock = some k → sl.ownBlock = some k ∨ w.heap.size ≤ k) → wpList Tryz.prog ops Q rest (a.put o.dst (.slice aj nj cj)) w') : wpList Tryz.prog ops Q (o :: rest) a (w.alloc (.cells (Value.slice ap n c :: ds).toArray 101)) := by
  obtain ⟨i, z, hi, hz, hsz, hb, hc⟩ := infoPz
  have d1 := hv.one
  have hone : ∀ u ∈ Value.slice ap n c :: ds, u.oneCell' = true := fun u hu => by
    rcases List.mem_cons.1 hu with rfl | hu
    · rfl
    · exact (Array.all_eq_true_iff_forall_mem.1 d1) u (by simpa using hu)
  refine wpList_plain hgd fun _ hK => wpO_growA (agP V) s x ho Tryz.underlying98 hi hz hsz hb hc (by omega) V.heap.size l sl G hs hG (path, v) (Value.slice ap n c :: ds) F (hP.own hv) (by simp [hv.cells]) hone hF.1 hF.2.1 hF.2.2 N hN hx (by omega) (by unfold maxLen; omega) hB ?_
  intro sl' w' g1 g2 g3 g4
  obtain ⟨aj, nj, cj, rfl⟩ := g1.form
  exact hK _ _ (h aj nj cj w' g1 g2 g3 g4)
end Go.Proofs.YtechaplindbfoaaGreatDoor.og
namespace Go.Proofs.YtechaplindbfoaaGreatDoor.og
open Go.ChangeShapes Go.WideShapes Go.ChangeAt Go.RowKit
open vl hiding cB cFl cS cF cI cK cIt
open stp (St Pth St3)
set_option linter.unusedVariables false
set_option linter.unusedSimpArgs false
/-- ref03.parts at a value -/
def PartsAt (v : Vl) : Prop := ∀ (V : World) (cs : List Value) (w : World) (path : List St) (ap : Option Addr) (n c : Nat) (F : List Nat) (l : List (List St × Vl)) (sl : Value) (G : List Nat),
  VlC V v cs → Below V.heap.size V w → Grow (OwP V) 101 9 w V.heap.size l sl G → PO w path ap n F → (F.Nodup ∧ (∀ b ∈ F, V.heap.size ≤ b ∧ b < w.heap.size ∧ b ∉ G ∧ sl.ownBlock ≠ some b) ∧ Fz w F) → l.length + cnt v ≤ 1048576 → path.length + cnt v ≤ 1048576 →
  Calls Tryz.prog 84 #[.agg cs.toArray, .slice ap n c, sl] w fun e w' => ∃ sl' G', e = .returned sl' ∧ Grow (OwP V) 101 9 w' V.heap.size (l ++ pts v path) sl' G' ∧ Below V.heap.size w w' ∧ (∀ b, b < w.heap.size → sl.ownBlock ≠ some b → w'.heap[b]? = w.heap[b]?) ∧ (∀ k, sl'.ownBlock = some k → sl.ownBlock = some k ∨ w.heap.size ≤ k)
/-- what the loop keeps -/
structure PrS (V w w2 : World) (sl s4 s5 : Value) (L4 : List St) (L5 : List Vl) (l : List (List St × Vl)) (sl' : Value) (G' : List Nat) (wr : World) : Prop where
  grow : Grow (OwP V) 101 9 wr V.heap.size l sl' G'
  g4 : GrS w2.heap.size L4 s4 wr
  g5 : GrV (fun v cs => VlC V v cs) 29 8 w2.heap.size L5 s5 wr
  bel : Below V.heap.size w wr
  hold : ∀ b, b < w.heap.size → sl.ownBlock ≠ some b → wr.heap[b]? = w.heap[b]?
  ownN : ∀ k, sl'.ownBlock = some k → sl.ownBlock = some k ∨ w.heap.size ≤ k
  own4 : ∀ b, s4.ownBlock = some b ∨ s5.ownBlock = some b → sl'.ownBlock ≠ some b
theorem GrV.keep {E : Type} {R : E → List Value → Prop} {t : TypeId} {size B : Nat} {l : List E} {sl : Value} {w w' : World} (h : GrV R t size B l sl w) (hk : ∀ b, sl.ownBlock = some b → w'.heap[b]? = w.heap[b]?) : GrV R t size B l sl w' := by
  obtain ⟨xss, h1, h2⟩ := h
  exact ⟨xss, ⟨h1.1, h1.2.imp id (fun ⟨g, cap, cur, e, hg, hh, r⟩ => ⟨g, cap, cur, e, hg, (hk g (by rw [e]; rfl)).trans hh, r⟩)⟩, h2⟩
theorem GrV.form {E : Type} {R : E → List Value → Prop} {t : TypeId} {size B : Nat} {l : List E} {sl : Value} {w : World} (h : GrV R t size B l sl w) : ∃ a c, sl = .slice a l.length c := by
  obtain ⟨xss, h1, h2⟩ := h
  rcases h1.2 with ⟨e, h0⟩ | ⟨g, cap, cur, e, -⟩
  · exact ⟨none, 0, by rw [e, h0]⟩
  · exact ⟨_, _, e⟩
theorem cnt_kid {v : Vl} {k : Nat} {q : St × Vl} (h : (kids v)[k]? = some q) : cnt q.2 + (((kids v).take k).map (fun q => cnt q.2)).sum + 1 ≤ cnt v := by
  rw [cnt_kids v]
  have e : kids v = (kids v).take k ++ (kids v).drop k := (List.take_append_drop k _).symm
  have hk := (List.getElem?_eq_some_iff.1 h)
  obtain ⟨hk, he⟩ := hk
  have e2 : ((kids v).map (fun q => cnt q.2)).sum = (((kids v).take k).map (fun q => cnt q.2)).sum + (((kids v).drop k).map (fun q => cnt q.2)).sum := by
    conv => lhs; rw [e]
    rw [List.map_append, List.sum_append]
  rw [e2, List.drop_eq_getElem_cons hk, he, List.map_cons, List.sum_cons]
  omega
theorem flat_len (path : List St) : ∀ l : List (St × Vl), (l.flatMap (fun q => pts q.2 (path ++ [q.1]))).length = (l.map (fun q => cnt q.2)).sum
  | [] => rfl
  | a :: l => by rw [List.flatMap_cons, List.length_append, pts_len, flat_len path l]; simp
end Go.Proofs.YtechaplindbfoaaGreatDoor.og
namespace Go.Proofs.YtechaplindbfoaaGreatDoor.og
open Go.ChangeShapes Go.WideShapes Go.ChangeAt Go.RowKit
open vl hiding cB cFl cS cF cI cK cIt
open stp (St Pth St3)
set_option linter.unusedVariables false
set_option linter.unusedSimpArgs false
set_option maxHeartbeats 8000000 in
set_option maxRecDepth 6000 in
theorem parts_step (v : Vl) (hsm : Small v) (ih : ∀ q ∈ kids v, PartsAt q.2) : PartsAt v := by
  intro V cs w path ap n c F l sl G hv hVw hG hP hF hb1 hb2
  obtain ⟨aS, nS, cS, rfl⟩ := hG.form
  have c8 := hv.cells
  have hcs : ∃ c0 c1 c2 c3 c4 c5 c6 c7, cs = [c0, c1, c2, c3, c4, c5, c6, c7] := by
    match cs, c8 with
    | [c0, c1, c2, c3, c4, c5, c6, c7], _ => exact ⟨c0, c1, c2, c3, c4, c5, c6, c7, rfl⟩
  obtain ⟨c0, c1, c2, c3, c4, c5, c6, c7, rfl⟩ := hcs
  have iv : (Tryz.prog.info? 29).map (·.size) = some [c0, c1, c2, c3, c4, c5, c6, c7].length := infoV
  obtain ⟨W, eW⟩ : ∃ W, W = w.alloc (.cells [c0, c1, c2, c3, c4, c5, c6, c7].toArray 29) := ⟨_, rfl⟩
  have bW : Below w.heap.size w W := by rw [eW]; exact (Below.refl _ _).alloc (Nat.le_refl _) _
  have sW : W.heap.size = w.heap.size + 1 := by rw [eW]; simp
  have rW : W.rangeAt w.heap.size 0 [c0, c1, c2, c3, c4, c5, c6, c7] := fun j u hu => by rw [Nat.zero_add, eW, World.cell?_alloc_at _ _ _ _ rfl]; simpa using hu
  have hlt0 : ∀ b, (Value.slice aS nS cS).ownBlock = some b → V.heap.size ≤ b ∧ b < w.heap.size := fun b hb => let ⟨xss, hr, _⟩ := hG.row; hr.lt b hb
  have hGW := hG.below (agP V) bW
  have hPW : PO W path ap n F := hP.agree (fun b hb => bW.block b (hF.2.1 b hb).2.1)
  have hFW : F.Nodup ∧ (∀ b ∈ F, V.heap.size ≤ b ∧ b < W.heap.size ∧ b ∉ G ∧ (Value.slice aS nS cS).ownBlock ≠ some b) ∧ Fz W F :=
    ⟨hF.1, fun b hb => ⟨(hF.2.1 b hb).1, by have := (hF.2.1 b hb).2.1; omega, (hF.2.1 b hb).2.2⟩, fun b hb j => (frozen_blk (bW.block b (hF.2.1 b hb).2.1) j).trans (hF.2.2 b hb j)⟩
  have cp : 1 ≤ cnt v := by rw [cnt_kids]; omega
  have hn1 : l.length + 1 ≤ 1048576 := by omega
  have hVW : V.heap.size ≤ W.heap.size := by have := hVw.size; omega
  have A := hide (And.intro hGW (And.intro hVW (And.intro hPW (And.intro hv (And.intro hFW (And.intro hn1 (And.intro rW iv)))))))
  have hbd := hide (buildP hv ap n c W)
  have EW := hide eW
  have SW := hide sW
  clear hGW hVW hPW hFW hn1 rW iv eW sW
  go_enter Tryz.func84, Tryz.ntmps84
  go_wp2_with (first
    | (rw [← unhide EW]; refine wpList_load_mid (by rfl) 29 _ (by rfl) w.heap.size 0 (by rfl) [c0, c1, c2, c3, c4, c5, c6, c7] _ (unhide A).2.2.2.2.2.2.1 Tryz.underlying29 (by rfl) (unhide A).2.2.2.2.2.2.2 ?_)
    | refine wpList_buildOne (by rfl) 98 _ (by rfl) (.agg (Value.slice ap n c :: [c0, c1, c2, c3, c4, c5, c6, c7]).toArray) _ (by rfl) (unhide hbd) ?_
    | (at_builtin; go_loud (refine wp_part (unhide A).1 (unhide A).2.1 (unhide A).2.2.1 (unhide A).2.2.2.1 (unhide A).2.2.2.2.1 (by rfl) _ _ (by rfl) (by rfl) W.heap.size rfl (by rfl) (unhide A).2.2.2.2.2.1 ?_; intro aj nj cj w2 g1 g2 g3 g4; have D := hide (And.intro g1 (And.intro g2 (And.intro g3 g4))); clear g1 g2 g3 g4))
    | refine wpList_load_mid (by rfl) 29 _ (by rfl) w.heap.size 0 (by rfl) [c0, c1, c2, c3, c4, c5, c6, c7] _ (fun j u hu => (cell_blk ((unhide D).2.2.1 w.heap.size (by have := unhide SW; omega) (fun e => by have := (hlt0 _ e).2; omega)) _).trans ((unhide A).2.2.2.2.2.2.1 j u hu)) Tryz.underlying29 (by rfl) (unhide A).2.2.2.2.2.2.2 ?_)
  have hD := unhide D
  have hVw2 : Below V.heap.size V w2 := (hVw.trans (bW.mono hVw.size)).trans hD.2.1
  have hw2 : W.heap.size ≤ w2.heap.size := hD.2.1.size
  refine (cg_ok v hsm V _ w2 hVw2 (unhide A).2.2.2.1).mono ?_
  rintro e w3 ⟨s4, s5, rfl, hcg⟩
  obtain ⟨a4, c4', e4⟩ := hcg.g4.form
  obtain ⟨a5, c5', e5⟩ := hcg.g5.form
  rw [List.length_map] at e4 e5
  have P0 := hide (show PrS V w w2 (.slice aS nS cS) s4 s5 ((kids v).map Prod.fst) ((kids v).map Prod.snd) (l ++ [(path, v)]) (.slice aj nj cj) (G ++ F) w3 from {
    grow := hD.1.below (agP V) hcg.bel
    g4 := hcg.g4
    g5 := hcg.g5
    bel := ((bW.mono hVw.size).trans hD.2.1).trans (hcg.bel.mono hVw2.size)
    hold := fun b hb hne => by
      have hs := unhide SW
      exact ((hcg.bel.block b (by omega)).trans (hD.2.2.1 b (by omega) hne)).trans (bW.block b hb)
    ownN := fun k hk => by
      have hs := unhide SW
      rcases hD.2.2.2 k hk with h | h
      · exact .inl h
      · exact .inr (by omega)
    own4 := fun b hb e => by
      have h1 : b < w2.heap.size := by obtain ⟨xss, hr, _⟩ := hD.1.row; exact (hr.lt b e).2
      rcases hb with hb | hb
      · have := (hcg.g4.lt b hb).1; omega
      · have := (hcg.g5.lt b hb).1; omega })
  have HPP := hide hP
  have HFF := hide hF
  have HV := hide (unhide A).2.2.2.1
  have HVw := hide hVw
  have HVw2 := hide hVw2
  have HPT := hide (pts_kids v path)
  have HCK := hide (fun k q => @cnt_kid v k q)
  have HCN : (kids v).length ≤ 1048576 := by
    have h1 := cnt_kids v
    have h2 : ∀ l : List (St × Vl), l.length ≤ (l.map (fun p => cnt p.2)).sum := by
      intro l
      induction l with
      | nil => simp
      | cons a r ih2 =>
        have : 1 ≤ cnt a.2 := by rw [cnt_kids]; omega
        simp; omega
    have := h2 (kids v)
    omega
  clear hD hcg D A hbd hVw2 hw2 hP hF hv hVw hG bW EW SW
  obtain ⟨ks, eks⟩ : ∃ ks, ks = kids v := ⟨_, rfl⟩
  rw [← eks] at P0 HPT HCK HCN e4 e5 ih
  clear eks
  subst e4 e5
  go_wp2_with fail
  go_loopw [9, 2] (fun vi v2 wr => ∃ (k : Nat) (sl' : Value) (G' : List Nat), k ≤ ks.length ∧ vi = .int .i64 k ∧ v2 = sl' ∧ vl.Hid (PrS V w w2 (.slice aS nS cS) (.slice a4 ks.length c4') (.slice a5 ks.length c5') (ks.map Prod.fst) (ks.map Prod.snd) (l ++ (path, v) :: (ks.take k).flatMap (fun q => pts q.2 (path ++ [q.1]))) sl' G' wr)) (fun vi _ _ => ks.length - (intOf vi).toNat)
  case atStart => exact ⟨0, _, _, Nat.zero_le _, rfl, rfl, by rw [List.take_zero, List.flatMap_nil]; exact P0⟩
  case round =>
    clear P0
    obtain ⟨k, sl', G', hk1, rfl, hv2, HS⟩ := hrel
    have hv2 := hv2.symm
    subst hv2
    by_cases hlt : k < ks.length
    · have ki : (k : Int) < (ks.length : Int) := by omega
      have hS := unhide HS
      obtain ⟨⟨st, u⟩, hq⟩ : ∃ q, ks[k]? = some q := ⟨_, List.getElem?_eq_getElem hlt⟩
      obtain ⟨b4, cap4, cs4, e4, h4, r4⟩ := GrV.get hS.g4 (fun e cs h => by rw [h]; rfl) (k := k) (e := st) (by rw [List.getElem?_map, hq]; rfl)
      obtain ⟨b5, cap5, us, e5, h5, r5⟩ := GrV.get hS.g5 (fun e cs h => h.cells) (k := k) (e := u) (by rw [List.getElem?_map, hq]; rfl)
      simp only [Value.slice.injEq] at e4 e5
      obtain ⟨rfl, -, rfl⟩ := e4
      obtain ⟨rfl, -, rfl⟩ := e5
      subst h4
      have hpth := (unhide HPP).agree (fun b hb => hS.hold b ((unhide HFF).2.1 b hb).2.1 ((unhide HFF).2.1 b hb).2.2.2)
      have hck := unhide HCK k (st, u) hq
      have HLO := hide (longer_ok path st ap n c wr hpth.pth (by have := (unhide HPP).1; omega))
      have R4 := hide r4
      have R5 := hide r5
      have H5 := hide h5
      have Hq := hide hq
      have HB := hide (And.intro hck (flat_len path (ks.take k)))
      clear hS r4 r5 h5 hpth hck hq
      go_wp2_with (refine wpList_load_mid (by rfl) 58 _ (by rfl) b4 (k * 3) (by rfl) (stC st) _ (unhide R4) Tryz.underlying58 (by rfl) infoS3 ?_)
      refine (unhide HLO).mono ?_
      rintro e w5 ⟨slp, rfl, hgs, b5b⟩
      obtain ⟨g, cap, rfl, hpo, hg1, hg2, hfz⟩ := PO.of_grs (by simp) hgs
      have hln : (path ++ [st]).length = path.length + 1 := by simp
      rw [hln] at hpo ⊢
      clear hln
      have R6 := hide (Row8.below (unhide R5) b5b)
      have iu := hide (show (Tryz.prog.info? 29).map (·.size) = some us.length by rw [(unhide H5).cells]; exact infoV)
      have X := hide (And.intro hpo (And.intro hg1 (And.intro hg2 (And.intro hfz b5b))))
      clear hgs hpo hg1 hg2 hfz b5b HLO
      have hS := unhide HS
      obtain ⟨hpo, hg1, hg2, hfz, b5b⟩ := unhide X
      have hown : ∀ b, sl'.ownBlock = some b → b < wr.heap.size := fun b (hb : sl'.ownBlock = some b) => by obtain ⟨xss, hr, _⟩ := hS.grow.row; exact (hr.lt b hb).2
      have hwr : V.heap.size ≤ wr.heap.size := Nat.le_trans (unhide HVw).size hS.bel.size
      have hih := (ih (st, u) (List.mem_of_getElem? (unhide Hq)) V us w5 (path ++ [st]) (some ⟨g, 0, none⟩) (path.length + 1) cap [g] (l ++ (path, v) :: (ks.take k).flatMap (fun q => pts q.2 (path ++ [q.1]))) sl' G' (unhide H5) (((unhide HVw).trans hS.bel).trans (b5b.mono hwr)) (hS.grow.below (agP V) b5b) hpo ⟨by simp, fun b hb => by
          rw [List.mem_singleton.1 hb]
          exact ⟨by omega, hg2, fun hm => by have := (hS.grow.rng g hm).2; omega, fun e => by have := hown g e; omega⟩, hfz⟩ (by
          have h1 := (unhide HB).1
          have h2 := (unhide HB).2
          rw [List.length_append, List.length_cons, h2]
          simp only at h1 ⊢
          omega) (by
          have h1 := (unhide HB).1
          rw [List.length_append]
          simp only [List.length_singleton] at h1 ⊢
          omega))
      have HIH := hide hih
      clear hih hS hpo hg1 hg2 hfz b5b hown hwr
      go_wp2_with (refine wpList_load_mid (by rfl) 29 _ (by rfl) b5 (k * 8) (by rfl) us _ (unhide R6) Tryz.underlying29 (by rfl) (unhide iu) ?_)
      refine (unhide HIH).mono ?_
      rintro e w6 ⟨sl6, G6, rfl, gr6, be6, ho6, on6⟩
      have hS := unhide HS
      obtain ⟨hpo, hg1, hg2, hfz, b5b⟩ := unhide X
      have hwr : V.heap.size ≤ wr.heap.size := Nat.le_trans (unhide HVw).size hS.bel.size
      have hb5s := b5b.size
      have P6 := hide (show PrS V w w2 (.slice aS nS cS) (.slice (some ⟨b4, 0, none⟩) ks.length c4') (.slice (some ⟨b5, 0, none⟩) ks.length c5') (ks.map Prod.fst) (ks.map Prod.snd) _ sl6 G6 w6 from {
        grow := gr6
        g4 := hS.g4.keep (fun b hb => (ho6 b (by have := (hS.g4.lt b hb).2; omega) (hS.own4 b (.inl hb))).trans (b5b.block b (hS.g4.lt b hb).2))
        g5 := hS.g5.keep (fun b hb => (ho6 b (by have := (hS.g5.lt b hb).2; omega) (hS.own4 b (.inr hb))).trans (b5b.block b (hS.g5.lt b hb).2))
        bel := (hS.bel.trans (b5b.mono hwr)).trans be6
        hold := fun b hb hne => by
          have hws := hS.bel.size
          refine ((ho6 b (by omega) (fun e => ?_)).trans (b5b.block b (by omega))).trans (hS.hold b hb hne)
          rcases hS.ownN b e with h | h
          · exact hne h
          · omega
        ownN := fun q hq => by
          have hws := hS.bel.size
          rcases on6 q hq with h | h
          · exact hS.ownN q h
          · exact .inr (by omega)
        own4 := fun b hb e => by
          rcases on6 b e with h | h
          · exact hS.own4 b hb h
          · rcases hb with hb | hb
            · have := (hS.g4.lt b hb).2; omega
            · have := (hS.g5.lt b hb).2; omega })
      clear hS hpo hg1 hg2 hfz b5b hwr gr6 be6 ho6 on6 X
      go_wp2
      go_roundw
      case rel => exact ⟨k + 1, sl6, G6, by omega, by go_num, rfl, by rw [List.take_add_one, unhide Hq, List.flatMap_append]; simpa using P6⟩
      case measure => simp [intOf]; omega
    · obtain rfl : k = ks.length := by omega
      have hS := unhide HS
      rw [List.take_length, ← unhide HPT] at hS
      have HS2 := hide hS
      clear hS HS
      go_wp2
      go_ret
      exact ⟨_, rfl, ⟨G', (unhide HS2).grow⟩, (unhide HS2).bel, (unhide HS2).hold, (unhide HS2).ownN⟩
theorem parts_ok : ∀ v : Vl, Small v → PartsAt v := by
  refine Vl.all ?_
  intro kd b n f tx ty its fls hI hF hv
  have hv0 := hv
  unfold Small at hv
  exact parts_step _ hv0 (mem_kids (P := PartsAt) (fun v hm => hI v hm (hv.2.2.2.1.all _ hm)) (fun q hm => hF q hm (hv.2.2.2.2.all _ hm)))
end Go.Proofs.YtechaplindbfoaaGreatDoor.og
namespace Go.Proofs.YtechaplindbfoaaGreatDoor.og
open Go.ChangeShapes Go.WideShapes Go.ChangeAt Go.RowKit
open vl hiding cB cFl cS cF cI cK cIt
open mem (dec_fin dec_inf dec_nan word_of order_fin order_word vR vR_mono sv)
set_option linter.unusedVariables false
set_option linter.unusedSimpArgs false
/-- no number, or one without bound -/
def badF (x : Nat) : Bool := decide (9218868437227405312 ≤ x % 9223372036854775808)
theorem sub_fin (x : Nat) (h : x < 18446744073709551616) (hb : badF x = false) : floatBits .sub .f64 x x = some 0 := by
  have hw := word_of x h
  obtain ⟨r, hr⟩ : ∃ r, r = x % 9223372036854775808 := ⟨_, rfl⟩
  obtain ⟨ng, hng⟩ : ∃ ng, ng = decide (9223372036854775808 ≤ x) := ⟨_, rfl⟩
  unfold badF at hb
  rw [← hr] at hb
  rw [← hr, ← hng] at hw
  have hl : r < 9218868437227405312 := by simpa using hb
  rw [← hw]
  show (((FloatKind.f64.decode _).sum (FloatKind.f64.decode _).opposite).map FloatKind.f64.format.write) = some 0
  rw [dec_fin ng r hl]
  simp only [Ieee.Datum.opposite, Ieee.Datum.sum]
  have ht : ∀ u : Nat, Ieee.signed ng (mem.mantR r) u + Ieee.signed (!ng) (mem.mantR r) u = 0 := fun u => by
    rw [mem.signed_eq, mem.signed_eq]
    unfold sv
    cases ng <;> simp <;> omega
  simp only [ht, if_true, Int.natAbs_zero, Option.map_some, Ieee.Format.write, Ieee.Format.nearest, if_true]
  cases ng <;> rfl
theorem sub_inf (x : Nat) (h : x < 18446744073709551616) (hb : badF x = true) (hn : nanF x = false) (t : TypeId) (w : World) : ∃ r, (FloatKind.f64.format.order r 0 != some Ordering.eq) = true ∧ (binOp .sub t (.float .f64 x) (.float .f64 x)).run Tryz.prog w = .ok (.float .f64 r) w.drew := by
  have hw := word_of x h
  obtain ⟨r, hr⟩ : ∃ r, r = x % 9223372036854775808 := ⟨_, rfl⟩
  obtain ⟨ng, hng⟩ : ∃ ng, ng = decide (9223372036854775808 ≤ x) := ⟨_, rfl⟩
  unfold badF at hb
  unfold nanF at hn
  rw [← hr] at hb hn
  rw [← hr, ← hng] at hw
  obtain rfl : r = 9218868437227405312 := by simp at hb hn; omega
  have hs : FloatKind.f64.format.sub x x = none := by
    rw [← hw]
    show (((FloatKind.f64.decode _).sum (FloatKind.f64.decode _).opposite).map FloatKind.f64.format.write) = none
    rw [dec_inf]
    cases ng <;> rfl
  obtain ⟨q, hq⟩ : ∃ q, q = (Question.nanBits .f64 x x).cut (w.tape w.drawn (Question.nanBits .f64 x x)) := ⟨_, rfl⟩
  refine ⟨q, ?_, ?_⟩
  · have hq2 : ∃ s k : Nat, q = Ieee.double.word (s == 1) (9218868437227405312 + 1 + k) ∧ k < 4503599627370495 := by
      refine ⟨w.tape w.drawn (Question.nanBits .f64 x x) % 2, (w.tape w.drawn (Question.nanBits .f64 x x) / 2) % 4503599627370495, ?_, Nat.mod_lt _ (by omega)⟩
      rw [hq]
      generalize w.tape w.drawn (Question.nanBits .f64 x x) = T
      show (T % 2) * 9223372036854775808 + 9218868437227405312 + 1 + (T / 2) % 4503599627370495 = _
      rcases Nat.mod_two_eq_zero_or_one T with e | e
      · rw [e]; show _ = 9218868437227405312 + 1 + _; omega
      · rw [e]; show _ = 9223372036854775808 + (9218868437227405312 + 1 + _); omega
    obtain ⟨s, k, e, hk⟩ := hq2
    rw [e]
    obtain ⟨f, hf⟩ := dec_nan (s == 1) (9218868437227405312 + 1 + k) (by omega) (by omega)
    show (!((FloatKind.f64.decode _).order (FloatKind.f64.decode _) == some Ordering.eq)) = true
    rw [hf]
    rfl
  · simp [binOp, Op.floatArith, hs, Question.forced, ← hq]
end Go.Proofs.YtechaplindbfoaaGreatDoor.og
namespace Go.Proofs.YtechaplindbfoaaGreatDoor.og
open Go.ChangeShapes Go.WideShapes Go.ChangeAt Go.RowKit
open vl hiding cB cFl cS cF cI cK cIt
open stp (St Pth St3)
set_option linter.unusedVariables false
set_option linter.unusedSimpArgs false
/-- are these bytes well formed? -/
def clnS (s : ByteArray) : Bool := (((mem.decZ (mem.bytesZ s)).2 : Nat) : Int) == (s.size : Int)
/-- the first fault among names -/
def nmF : List (List UInt8) → List ByteArray → Int
  | _, [] => 0
  | seen, s :: r => if clnS s = false then 1 else if seen.contains s.data.toList = true then 5 else nmF (seen ++ [s.data.toList]) r
/-- what is wrong with a part by itself -/
def flw : Vl → Int
  | .mk kd _ _ f tx _ _ fls => if kd < 0 ∨ 7 ≤ kd then 2 else if kd = 3 then (if badF f = true then 6 else 0) else if kd = 4 then (if clnS tx = false then 1 else 0) else if kd = 6 then nmF [] (fls.list.map (·.1)) else 0
theorem flat_congr {α β : Type} {f g : α → List β} : ∀ {l : List α}, (∀ a ∈ l, f a = g a) → l.flatMap f = l.flatMap g
  | [], _ => rfl
  | a :: l, h => by rw [List.flatMap_cons, List.flatMap_cons, h a (List.mem_cons_self ..), flat_congr (fun b hb => h b (List.mem_cons_of_mem _ hb))]
theorem pts_shift : ∀ (v : Vl) (p : List St), pts v p = (pts v []).map (fun q => (p ++ q.1, q.2)) := by
  refine Vl.all ?_
  intro kd b n f tx ty its fls hI hF p
  have hk := mem_kids (P := fun v => ∀ p : List St, pts v p = (pts v []).map (fun q => (p ++ q.1, q.2))) (kd := kd) (b := b) (n := n) (f := f) (tx := tx) (ty := ty) hI hF
  generalize Vl.mk kd b n f tx ty its fls = v at *
  rw [pts_kids v p, pts_kids v [], List.map_cons, List.append_nil, List.map_flatMap]
  congr 1
  refine flat_congr ?_
  intro q hq
  rw [hk q hq (p ++ [q.1]), hk q hq ([] ++ [q.1]), List.map_map]
  simp [Function.comp_def]
/-- the first part with a fault -/
def ffn (v : Vl) : Option (List St × Vl) := (pts v []).find? (fun q => flw q.2 != 0)
def ffP (v : Vl) : List St := match ffn v with | none => [] | some q => q.1
def ffE (v : Vl) : Int := match ffn v with | none => 0 | some q => flw q.2
theorem ff_find {v : Vl} {k : Nat} {q : List St × Vl} (hk : (pts v [])[k]? = some q) (hp : ∀ j x, j < k → (pts v [])[j]? = some x → flw x.2 = 0) (hq : flw q.2 ≠ 0) : ffP v = q.1 ∧ ffE v = flw q.2 := by
  have e : ffn v = some q := by
    unfold ffn
    have hs := List.take_append_drop k (pts v [])
    rw [← hs, List.find?_append]
    have h1 : ((pts v []).take k).find? (fun q => flw q.2 != 0) = none := by
      rw [List.find?_eq_none]
      intro x hx
      obtain ⟨j, hj, hjx⟩ := List.mem_take_iff_getElem.1 hx
      have := hp j x (by omega) (by rw [← hjx]; exact List.getElem?_eq_getElem _)
      simp [this]
    obtain ⟨hl, hv⟩ := List.getElem?_eq_some_iff.1 hk
    rw [h1, Option.none_or, List.drop_eq_getElem_cons hl, hv, List.find?_cons]
    have : (flw q.2 != 0) = true := by simpa using hq
    simp only [this]
  unfold ffP ffE
  rw [e]
  exact ⟨rfl, rfl⟩
theorem ff_none {v : Vl} (hp : ∀ j x, j < (pts v []).length → (pts v [])[j]? = some x → flw x.2 = 0) : ffP v = [] ∧ ffE v = 0 := by
  have e : ffn v = none := by
    unfold ffn
    rw [List.find?_eq_none]
    intro x hx
    obtain ⟨j, hj, rfl⟩ := List.mem_iff_getElem.1 hx
    simp [hp j _ hj (List.getElem?_eq_getElem hj)]
  unfold ffP ffE
  rw [e]
  exact ⟨rfl, rfl⟩
end Go.Proofs.YtechaplindbfoaaGreatDoor.og
namespace Go.Proofs.YtechaplindbfoaaGreatDoor.og
open Go.ChangeShapes Go.WideShapes Go.ChangeAt Go.RowKit
open vl hiding cB cFl cS cF cI cK cIt
open Go.Maps
set_option linter.unusedVariables false
set_option linter.unusedSimpArgs false
def seenN (fls : Fls) (k : Nat) : List (List UInt8) := ((fls.list.map (·.1)).take k).map (fun s => s.data.toList)
theorem nmF_step {fls : Fls} {k : Nat} {nm : ByteArray} {v : Vl} (hg : fls.list[k]? = some (nm, v)) : nmF (seenN fls k) ((fls.list.map (·.1)).drop k) = if clnS nm = false then 1 else if (seenN fls k).contains nm.data.toList = true then 5 else nmF (seenN fls (k + 1)) ((fls.list.map (·.1)).drop (k + 1)) := by
  obtain ⟨hk, e⟩ := List.getElem?_eq_some_iff.1 hg
  have hk' : k < (fls.list.map (·.1)).length := by simpa using hk
  have e' : (fls.list.map (·.1))[k] = nm := by simp [e]
  rw [List.drop_eq_getElem_cons hk', e', nmF]
  have hs : seenN fls (k + 1) = seenN fls k ++ [nm.data.toList] := by
    unfold seenN
    rw [List.take_add_one, List.getElem?_eq_getElem hk', e', List.map_append]
    rfl
  rw [hs]
end Go.Proofs.YtechaplindbfoaaGreatDoor.og
namespace Go.Proofs.YtechaplindbfoaaGreatDoor.og
open Go.ChangeShapes Go.WideShapes Go.ChangeAt Go.RowKit
open vl hiding cB cFl cS cF cI cK cIt
open stp (St Pth St3)
set_option linter.unusedVariables false
set_option linter.unusedSimpArgs false
mutual
/-- a value's bulk: its parts, their texts and names -/
def wtV : Vl → Nat
  | .mk _ _ _ _ tx _ its fls => 1 + tx.size + wtI its + wtF fls
def wtI : Vls → Nat
  | .nil => 0
  | .cons v r => wtV v + wtI r
def wtF : Fls → Nat
  | .nil => 0
  | .cons nm v r => nm.size + wtV v + wtF r
end
theorem wtI_mem {v : Vl} : ∀ {l : Vls}, v ∈ l.list → wtV v ≤ wtI l
  | .nil, h => by simp [Vls.list] at h
  | .cons u r, h => by
    simp only [Vls.list, List.mem_cons] at h
    rw [wtI]
    rcases h with rfl | h
    · omega
    · have := wtI_mem h; omega
theorem wtF_mem {q : ByteArray × Vl} : ∀ {l : Fls}, q ∈ l.list → q.1.size + wtV q.2 ≤ wtF l
  | .nil, h => by simp [Fls.list] at h
  | .cons nm u r, h => by
    simp only [Fls.list, List.mem_cons] at h
    rw [wtF]
    rcases h with rfl | h
    · simp only; omega
    · have := wtF_mem h; omega
mutual
theorem cnt_wt : ∀ v : Vl, cnt v ≤ wtV v
  | .mk kd _ _ _ tx _ its fls => by
    have h1 := cntI_wt its
    have h2 := cntF_wt fls
    rw [cnt, wtV]
    split
    · omega
    · split <;> omega
theorem cntI_wt : ∀ l : Vls, cntI l ≤ wtI l
  | .nil => Nat.le_refl _
  | .cons v r => by have h1 := cnt_wt v; have h2 := cntI_wt r; rw [cntI, wtI]; omega
theorem cntF_wt : ∀ l : Fls, cntF l ≤ wtF l
  | .nil => Nat.le_refl _
  | .cons _ v r => by have h1 := cnt_wt v; have h2 := cntF_wt r; rw [cntF, wtF]; omega
end
theorem kid_wt {v : Vl} : ∀ p ∈ kids v, wtV p.2 ≤ wtV v := by
  obtain ⟨kd, b, n, f, tx, ty, its, fls⟩ := v
  refine mem_kids (P := fun u => wtV u ≤ wtV (.mk kd b n f tx ty its fls)) (fun u hu => ?_) (fun q hq => ?_)
  · have := wtI_mem hu; rw [wtV]; omega
  · have := wtF_mem hq; rw [wtV]; omega
theorem conv_bytes (s : ByteArray) (w : World) : ∃ cap W2, (convert 9 34 (.string s)).run Tryz.prog w = .ok (.slice (some ⟨w.heap.size, 0, none⟩) s.size cap) W2 ∧
    mem.Row .u8 W2 (some ⟨w.heap.size, 0, none⟩) s.size cap (mem.bytesZ s) ∧ Below w.heap.size w W2 := by
  have h := run_bytes_of_string (P := Tryz.prog) w 9 34 5 s Tryz.underlying9 Tryz.underlying34 Tryz.underlying5
  refine ⟨_, _, h, ⟨mem.bytesZ_len s, grownCap_ge _ _ _ _, (fun e => by cases e), .inr ⟨w.heap.size, 0, rfl, by simp, fun i hi => ?_⟩⟩, (Below.refl _ _).drew.alloc (Nat.le_refl _) _⟩
  have e : (w.drew.alloc (.cells (bytesRow s (grownCap w s.size 0 5)) 5 ((bytesRow s (grownCap w s.size 0 5)).size, (bytesRow s (grownCap w s.size 0 5)).size + 1))).cell? ⟨w.drew.heap.size, 0 + i, none⟩ = (bytesRow s (grownCap w s.size 0 5))[0 + i]? := World.cell?_alloc_mark _ _ _ _ _
  refine e.trans ?_
  have hi' : i < s.data.size := hi
  unfold bytesRow mem.bytesZ
  rw [Nat.zero_add, Array.getElem?_append_left (by simpa using hi')]
  have e2 : (s.data.toList.map fun b => (b.toNat : Int)).getD i 0 = ((s.data[i]'hi').toNat : Int) := by simp [List.getD, Array.getElem?_eq_getElem hi']
  rw [e2, Array.getElem?_map, Array.getElem?_eq_getElem hi']
  rfl
theorem rclean_ok (s : ByteArray) (a : Option Addr) (c : Nat) (w : World) (h : mem.Row .u8 w a s.size c (mem.bytesZ s)) (hs : s.size ≤ 1048576) : Calls Tryz.prog 85 #[.slice a s.size c] w fun e w' => e = .returned (.bool (clnS s)) ∧ Below w.heap.size w w' := by
  have D := hide (mem.rdecode_any a s.size c _ w h (mem.bytesZ_byt s) (by omega))
  have hC := hide (show clnS s = ((((mem.decZ (mem.bytesZ s)).2 : Nat) : Int) == (s.size : Int)) from rfl)
  generalize clnS s = C at *
  generalize (mem.decZ (mem.bytesZ s)).2 = d at *
  generalize s.size = n at *
  clear h
  go_enter Tryz.func85, Tryz.ntmps85
  go_wp2_with fail
  refine (unhide D).mono ?_
  rintro e w1 ⟨v, rfl, -, b1⟩
  clear D
  go_wp2
  go_ret
  exact ⟨by rw [unhide hC]; rfl, b1⟩
end Go.Proofs.YtechaplindbfoaaGreatDoor.og
