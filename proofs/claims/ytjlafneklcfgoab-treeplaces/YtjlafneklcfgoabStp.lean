import Derived.Test.YtjlafneklcfgoabRows
import Derived.WalkKit
import Derived.ProofKit
import Derived.OpenShut
import Derived.ShutString
import Derived.Below
import Derived.Outline
import Derived.Laws.Pointers
import Derived.Lib.Bytealg
import Derived.Laws.Externs
import Derived.Laws.Rows
import Derived.Laws.StructEq
import Derived.Deep.RegionHeld3
namespace Go.Proofs.Ytjlafneklcfgoab.stp
open Go.ChangeShapes Go.WideShapes Go.ChangeAt Go.RowKit
set_option linter.unusedVariables false

theorem hide {p : Prop} (h : p) : Hid p := h
theorem unhide {p : Prop} (h : Hid p) : p := h
def c3 (x t : Int) : Int := if x < t then -1 else if t < x then 1 else 0
theorem c3_lt {x t : Int} (h : x < t) : c3 x t = -1 := by simp [c3, h]
theorem c3_gt {x t : Int} (h : t < x) : c3 x t = 1 := by simp [c3, h, show ¬ x < t by omega]
theorem c3_eq {x t : Int} (h : x = t) : c3 x t = 0 := by simp [c3, h]
/-- two texts, byte by byte -/
def cB (a b : ByteArray) : Int := Lib.compareBytes a.data.toList b.data.toList
theorem cmpL_tri : ∀ a b : List UInt8, (Lib.compareBytes a b = -1 ∧ Op.bytesLess a b = true ∧ a ≠ b) ∨ (Lib.compareBytes a b = 0 ∧ Op.bytesLess a b = false ∧ a = b) ∨ (Lib.compareBytes a b = 1 ∧ Op.bytesLess a b = false ∧ a ≠ b)
  | [], [] => by simp [Lib.compareBytes, Op.bytesLess]
  | [], _ :: _ => by simp [Lib.compareBytes, Op.bytesLess]
  | _ :: _, [] => by simp [Lib.compareBytes, Op.bytesLess]
  | x :: a, y :: b => by
    have ih := cmpL_tri a b
    by_cases h1 : x < y
    · left
      refine ⟨by simp [Lib.compareBytes, h1], by simp [Op.bytesLess, h1], ?_⟩
      intro e
      simp only [List.cons.injEq] at e
      rw [e.1] at h1
      exact UInt8.lt_irrefl _ h1
    · by_cases h2 : y < x
      · right; right
        have hne : x ≠ y := fun e => by rw [e] at h2; exact UInt8.lt_irrefl _ h2
        refine ⟨by simp [Lib.compareBytes, h1, h2], by simp [Op.bytesLess, h1, hne], ?_⟩
        intro e
        simp only [List.cons.injEq] at e
        exact hne e.1
      · have e : x = y := UInt8.le_antisymm (UInt8.not_lt.1 h2) (UInt8.not_lt.1 h1)
        subst e
        simpa [Lib.compareBytes, Op.bytesLess, UInt8.lt_irrefl] using ih
theorem toList_data (a : ByteArray) : a.toList = a.data.toList := Lib.toList_data a
theorem cB_tri (a b : ByteArray) : (cB a b = -1 ∧ Op.bytesLess a.toList b.toList = true ∧ a ≠ b) ∨ (cB a b = 0 ∧ Op.bytesLess a.toList b.toList = false ∧ a = b) ∨ (cB a b = 1 ∧ Op.bytesLess a.toList b.toList = false ∧ a ≠ b) := by
  rw [toList_data, toList_data]
  have hab : a = b ↔ a.data.toList = b.data.toList := by
    constructor
    · intro e; rw [e]
    · intro e
      obtain ⟨⟨x⟩⟩ := a
      obtain ⟨⟨y⟩⟩ := b
      simp at e
      rw [e]
  rcases cmpL_tri a.data.toList b.data.toList with ⟨h1, h2, h3⟩ | ⟨h1, h2, h3⟩ | ⟨h1, h2, h3⟩
  · exact .inl ⟨h1, h2, fun e => h3 (hab.1 e)⟩
  · exact .inr (.inl ⟨h1, h2, hab.2 h3⟩)
  · exact .inr (.inr ⟨h1, h2, fun e => h3 (hab.1 e)⟩)
theorem run_cmp (a b : ByteArray) (w : World) : (callFunc 115 #[.string a, .string b]).run Try.prog w = .ok (.value (.int .i64 (cB a b))) w := by
  rw [run_callFunc_extern (e := Extern.BytealgCompare.compare) Try.func115 (by kernel_rfl) (by kernel_rfl) (by kernel_rfl) (by kernel_rfl), Lib.run_compareString]
  rfl
theorem str_cmp (a b : ByteArray) (w : World) : Calls Try.prog 68 #[.string a, .string b] w fun e w' => e = .returned (.int .i64 (cB a b)) ∧ Below w.heap.size w w' := by
  have hr := fun w => run_cmp a b w
  go_enter Try.func68, Try.ntmps68
  go_wp2
  go_ret
  exact ⟨rfl, Below.refl _ _⟩
theorem int_cmp (x t : Int) (w : World) : Calls Try.prog 110 #[.int .i64 x, .int .i64 t] w fun e w' => e = .returned (.int .i64 (c3 x t)) ∧ Below w.heap.size w w' := by
  rcases Int.lt_trichotomy x t with h | h | h
  · go_enter Try.func110, Try.ntmps110
    go_wp2
    go_ret
    exact ⟨by rw [c3_lt h]; rfl, Below.refl _ _⟩
  · go_enter Try.func110, Try.ntmps110
    go_wp2
    go_ret
    exact ⟨by rw [c3_eq (by omega)]; rfl, Below.refl _ _⟩
  · go_enter Try.func110, Try.ntmps110
    go_wp2
    go_ret
    exact ⟨by rw [c3_gt h]; rfl, Below.refl _ _⟩
/-- a step of a path -/
structure St where
  nm : ByteArray
  ix : Int
  it : Bool
def St.val (s : St) : Value := .agg #[.string s.nm, .int .i64 s.ix, .bool s.it]
/-- how two steps stand to each other -/
def cS (a b : St) : Int := if a.it = true then (if b.it = true then c3 a.ix b.ix else -1) else (if b.it = true then 1 else cB a.nm b.nm)
def pN (nm : ByteArray) (it : Bool) : ByteArray := if it = true then ⟨#[]⟩ else nm
def pI (ix : Int) (it : Bool) : Int := if it = true then ix else 0
theorem plain_any (nm : ByteArray) (ix : Int) (it : Bool) (w : World) : Calls Try.prog 52 #[.agg #[.string nm, .int .i64 ix, .bool it]] w fun e w' => e = .returned (.agg #[.string (pN nm it), .int .i64 (pI ix it), .bool it]) ∧ Below w.heap.size w w' := by
  cases it
  · go_enter Try.func52, Try.ntmps52
    go_wp2
    refine bodyPost_ret (results_cell_row rfl _ _ (w.heap.size + 1) 33 _ (0, 0) _ rfl (heap_alloc2_new _ _ _) Try.underlying33 rfl (by kernel_rfl)) rfl ?_
    exact ⟨rfl, ((Below.refl _ _).alloc (Nat.le_refl _) _).alloc (by simp) _⟩
  · go_enter Try.func52, Try.ntmps52
    go_wp2
    refine bodyPost_ret (results_cell_row rfl _ _ (w.heap.size + 1) 33 _ (0, 0) _ rfl (heap_alloc2_new _ _ _) Try.underlying33 rfl (by kernel_rfl)) rfl ?_
    exact ⟨rfl, ((Below.refl _ _).alloc (Nat.le_refl _) _).alloc (by simp) _⟩
/-- a step's three cells -/
def St3 (w : World) (b o : Nat) (nm : ByteArray) (ix : Int) (it : Bool) : Prop := w.cell? ⟨b, o, none⟩ = some (.string nm) ∧ w.cell? ⟨b, o + 1, none⟩ = some (.int .i64 ix) ∧ w.cell? ⟨b, o + 2, none⟩ = some (.bool it)
theorem St3.below {w w' : World} {b o : Nat} {nm : ByteArray} {ix : Int} {it : Bool} (h : St3 w b o nm ix it) (hb : b < w.heap.size) (hB : Below w.heap.size w w') : St3 w' b o nm ix it :=
  ⟨(hB.cell (p := ⟨b, o, none⟩) hb).trans h.1, (hB.cell (p := ⟨b, o + 1, none⟩) hb).trans h.2.1, (hB.cell (p := ⟨b, o + 2, none⟩) hb).trans h.2.2⟩
theorem two_steps (w : World) (n1 n2 : ByteArray) (x1 x2 : Int) (t1 t2 : Bool) (t : TypeId) : ∃ W, ((w.alloc (Obj.cells #[.string n1, .int .i64 x1, .bool t1] t)).alloc (Obj.cells #[.string n2, .int .i64 x2, .bool t2] t)) = W ∧ W.heap.size = w.heap.size + 2 ∧ St3 W w.heap.size 0 n1 x1 t1 ∧ St3 W (w.heap.size + 1) 0 n2 x2 t2 ∧ Below w.heap.size w W := by
  refine ⟨_, rfl, by simp, ?_, ?_, ((Below.refl _ _).alloc (Nat.le_refl _) _).alloc (by simp) _⟩
  · unfold St3; simp
  · have e : w.heap.size + 1 = (w.alloc (Obj.cells #[.string n1, .int .i64 x1, .bool t1] t)).heap.size := by simp
    unfold St3
    rw [e]
    simp
/-- are two steps one, what doesn't count struck? -/
def eqS (n1 : ByteArray) (x1 : Int) (t1 : Bool) (n2 : ByteArray) (x2 : Int) (t2 : Bool) : Bool := (pN n1 t1).toList == (pN n2 t2).toList && pI x1 t1 == pI x2 t2 && t1 == t2
theorem stood : Try.prog.stoodInHeld 33 = false := by kernel_rfl
theorem flds : Try.prog.underlying 33 = some (.struct (Try.prog.fieldsOf 33)) := by kernel_rfl
theorem run_eqStep (n1 n2 : ByteArray) (x1 x2 : Int) (t1 t2 : Bool) (w : World) : (binOp BinOp.eql 33 (.agg #[.string n1, .int .i64 x1, .bool t1]) (.agg #[.string n2, .int .i64 x2, .bool t2])).run Try.prog w = .ok (.bool (n1.toList == n2.toList && x1 == x2 && t1 == t2)) w := by
  rw [run_eql_struct, run_equalIn_agg w 9999 33 _ _ flds stood]
  simp only [Program.fieldsOf, Try.underlying33]
  simp only [Op.eqFields]
  have p0 : ∀ (a b c : Value) (w : World), (part 9 #[a, b, c] 0).run Try.prog w = .ok a w := fun a b c w => by kernel_rfl
  have p1 : ∀ (a b c : Value) (w : World), (part 3 #[a, b, c] 1).run Try.prog w = .ok b w := fun a b c w => by kernel_rfl
  have p2 : ∀ (a b c : Value) (w : World), (part 4 #[a, b, c] 2).run Try.prog w = .ok c w := fun a b c w => by kernel_rfl
  rw [if_pos (by decide)]
  simp only [Sem.run_bind, p0, Result.andThen, run_equalIn_string w 9998 9 n1 n2 Try.underlying9]
  cases n1.toList == n2.toList
  · simp
  · simp [p1, p2, run_equalIn_int w 9998 3 .i64 .i64 x1 x2 Try.underlying3, run_equalIn_bool' w 9998 4 t1 t2 Try.underlying4]
    by_cases h1 : x1 = x2
    · by_cases h2 : t1 = t2
      · simp [h1, h2]
      · simp [h1, h2]
    · simp [h1]
end Go.Proofs.Ytjlafneklcfgoab.stp
