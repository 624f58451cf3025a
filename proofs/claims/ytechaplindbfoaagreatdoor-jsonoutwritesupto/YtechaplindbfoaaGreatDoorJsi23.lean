import Derived.Test.YtechaplindbfoaaGreatDoorJpa13
import Derived.Test.YtechaplindbfoaaGreatDoorJsi6
namespace Go.Proofs.YtechaplindbfoaaGreatDoor.jsn
open Go.ChangeShapes Go.WideShapes Go.ChangeAt Go.RowKit
open mem
open vl hiding hide unhide Hid
open ints (hide unhide)
set_option linter.unusedVariables false
set_option linter.unusedSimpArgs false
/-- an own row of bytes -/
def OwB (w : World) (B : Nat) (r : Value) (l : List UInt8) : Prop := w.ownsRow B 5 1 r l.length (Lib.byteCells l)
theorem OwB.below {w w' : World} {B : Nat} {r : Value} {l : List UInt8} (h : OwB w B r l) (hb : Below w.heap.size w w') : OwB w' B r l := own_below h hb
/-- a row of two bytes or more lies in no block of one cell -/
theorem OwB.ne {B : Nat} {w : World} {r : Value} {l : List UInt8} (h : OwB w B r l) (h2 : 2 ≤ l.length) {j : Nat} {c : Value} {T : TypeId} {fr : Nat × Nat} (hj : w.heap[j]? = some (.cells #[c] T fr)) : r.ownBlock ≠ some j := by
  obtain ⟨-, h1⟩ := h
  rcases h1 with ⟨-, h1⟩ | ⟨g, cap, cur, rfl, -, hg, hn, -, hs, -⟩
  · omega
  · intro e
    have e : g = j := by simpa [Value.ownBlock] using e
    subst e
    rw [hg] at hj
    injection hj with hj
    injection hj with hc
    subst hc
    simp at hs
    omega
/-- nor in a block whose one byte is not its first -/
theorem OwB.ne2 {B : Nat} {w : World} {r : Value} {l : List UInt8} {c d : UInt8} (h : OwB w B r (l ++ [c])) (hcd : c ≠ d) {j : Nat} {T : TypeId} {fr : Nat × Nat} (hj : w.heap[j]? = some (.cells #[.int .u8 (d.toNat : Int)] T fr)) : r.ownBlock ≠ some j := by
  by_cases h2 : 2 ≤ (l ++ [c]).length
  · exact h.ne h2 hj
  · obtain rfl : l = [] := by
      simp only [List.length_append, List.length_cons, List.length_nil] at h2
      exact List.eq_nil_of_length_eq_zero (by omega)
    obtain ⟨-, h1⟩ := h
    rcases h1 with ⟨-, h1⟩ | ⟨g, cap, cur, rfl, -, hg, hn, -, hs, ht⟩
    · simp at h1
    · intro e
      have e : g = j := by simpa [Value.ownBlock] using e
      subst e
      rw [hg] at hj
      injection hj with hj
      injection hj with hc
      subst hc
      have e3 : (d.toNat : Int) = (c.toNat : Int) := by simpa [Lib.byteCells] using ht
      exact hcd (UInt8.toNat_inj.1 (by omega))
/-- what a step of the builder r keeps: beside Fr, each block of one cell that r does not own -/
structure Fq (B : Nat) (w : World) (r : Value) (w' : World) : Prop where
  bel : Below B w w'
  val : ∀ (j : Nat) (cs : Array Value) (T : TypeId) (fr : Nat × Nat), (T = 29 ∨ T = 45) → w.heap[j]? = some (Obj.cells cs T fr) → w'.heap[j]? = some (Obj.cells cs T fr)
  one : ∀ (j : Nat) (c : Value) (T : TypeId) (fr : Nat × Nat), r.ownBlock ≠ some j → w.heap[j]? = some (Obj.cells #[c] T fr) → w'.heap[j]? = some (Obj.cells #[c] T fr)
theorem Fq.fr {B : Nat} {w w' : World} {r : Value} (h : Fq B w r w') : Fr B w w' := ⟨h.bel, h.val⟩
theorem Fq.refl (B : Nat) (w : World) (r : Value) : Fq B w r w := ⟨Below.refl _ _, fun _ _ _ _ _ h => h, fun _ _ _ _ _ h => h⟩
theorem Fq.new {B : Nat} {w w' : World} {r : Value} (hB : B ≤ w.heap.size) (h : Below w.heap.size w w') : Fq B w r w' := ⟨(Fr.new hB h).bel, (Fr.new hB h).val, fun j c T fr _ hj => (h.block j (lt_heap hj)).trans hj⟩
theorem Fq.same {B : Nat} {w w1 w2 : World} {r : Value} (h : Fq B w r w1) (k : Fq B w1 r w2) : Fq B w r w2 := ⟨h.bel.trans k.bel, fun j cs T fr hT hj => k.val j cs T fr hT (h.val j cs T fr hT hj), fun j c T fr hr hj => k.one j c T fr hr (h.one j c T fr hr hj)⟩
theorem Fq.trans {B : Nat} {w w1 w2 : World} {r r1 : Value} {l1 : List UInt8} (h : Fq B w r w1) (k : Fq B w1 r1 w2) (ho : OwB w1 B r1 l1) (hl : 2 ≤ l1.length) : Fq B w r w2 :=
  ⟨h.bel.trans k.bel, fun j cs T fr hT hj => k.val j cs T fr hT (h.val j cs T fr hT hj), fun j c T fr hr hj => k.one j c T fr (ho.ne hl (h.one j c T fr hr hj)) (h.one j c T fr hr hj)⟩
theorem fq_grown {B : Nat} {w w' : World} {r : Value} {l : List UInt8} (h : OwB w B r l) (hgr : w.grownBy w' r.ownBlock) (hB : B ≤ w.heap.size) : Fq B w r w' := by
  have hlt := h.lt
  refine ⟨(Below.refl _ w).grown hgr hB (fun k hk => (hlt k hk).1), fun j cs T fr hT hj => ?_, fun j c T fr hr hj => ?_⟩
  · have hjl := lt_heap hj
    have j1 : r.ownBlock ≠ some j := by
      rcases hT with rfl | rfl
      · exact Lib.ownBlock_ne h hj (by decide)
      · exact Lib.ownBlock_ne h hj (by decide)
    rw [hgr.block j hjl (fun e => j1 e.symm)]
    exact hj
  · rw [hgr.block j (lt_heap hj) (fun e => hr e.symm)]
    exact hj
/-- append of a text -/
theorem wp_puts {w : World} {ops : Array Oper} {rest : List Oper} {o : Oper} {a : Act} {Q : Exit → Act → World → Prop} (hgd : o.guard = none) (sl x : Operand)
    (ho : o.op = .call { callee := .builtin .append, args := #[sl, x], argTypes := #[34, 9] })
    (B : Nat) (r : Value) (l : List UInt8) (hs : a.eval sl = r) (hown : OwB w B r l) (s : ByteArray) (hx : a.eval x = .string s) (hl : l.length + s.size ≤ 70368744177664) (hB : B ≤ w.heap.size)
    (h : ∀ r' w', OwB w' B r' (l ++ s.data.toList) → Fq B w r w' → wpList Tryz.prog ops Q rest (a.put o.dst r') w') : wpList Tryz.prog ops Q (o :: rest) a w := by
  obtain ⟨i0, hi, hz0, hz1, hz2⟩ := info_parts info8
  refine Lib.wpList_append_own_string _ hgd sl x 34 9 ho B 5 i0 Tryz.underlying34 Tryz.underlying9 hi hz0 hz1 hz2 r l.length _ hs hown s hx (by unfold maxLen; omega) (by omega) hB ?_
  intro r' w' ho' hgr hiff
  have hlen : l.length + s.size = (l ++ s.data.toList).length := by rw [List.length_append, size_list]
  refine h r' w' ?_ (fq_grown hown hgr hB)
  unfold OwB
  rw [← hlen, ← cells_app']
  exact ho'
/-- append of a byte -/
theorem wp_putc {w : World} {ops : Array Oper} {rest : List Oper} {o : Oper} {a : Act} {Q : Exit → Act → World → Prop} (hgd : o.guard = none) (sl x : Operand)
    (ho : o.op = .call { callee := .builtin .append, args := #[sl, x], argTypes := #[34, 34] })
    (B : Nat) (r : Value) (l : List UInt8) (hs : a.eval sl = r) (hown : OwB w B r l) (c : UInt8) (hx : a.eval x = .slice (some ⟨w.heap.size, 0, none⟩) 1 1) (hl : l.length + 1 ≤ 70368744177664) (hB : B ≤ w.heap.size)
    (h : ∀ r' w', OwB w' B r' (l ++ [c]) → Fq B w r w' → wpList Tryz.prog ops Q rest (a.put o.dst r') w') : wpList Tryz.prog ops Q (o :: rest) a (w.alloc (.cells #[.int .u8 (c.toNat : Int)] 5)) := by
  obtain ⟨i0, hi, hz0, hz1, hz2⟩ := info_parts info8
  have hown1 : OwB (w.alloc (.cells #[.int .u8 (c.toNat : Int)] 5)) B r l := hown.below ((Below.refl _ _).alloc (Nat.le_refl _) _)
  refine wpList_append_own _ hgd sl x 34 ho B 5 i0 (.int .u8 0) 1 1 Tryz.underlying34 hi hz0 hz1 hz2 rfl (by decide) r l.length _ hs hown1 ⟨w.heap.size, 0, none⟩ 1 1 [.int .u8 (c.toNat : Int)] hx rfl (fun j u hu => by rw [Addr.add_mid, Nat.zero_add, World.cell?_alloc_at _ _ _ _ rfl]; simpa using hu) (by simp [Value.oneCell']) (by unfold maxLen; omega) (by omega) (by simp; omega) ?_
  intro r' w' ho' hgr _
  refine h r' w' ?_ ((Fq.new hB ((Below.refl _ _).alloc (Nat.le_refl _) _)).same (fq_grown hown1 hgr (by simp; omega)))
  unfold OwB
  rw [List.length_append, List.length_singleton]
  have e : Lib.byteCells (l ++ [c]) = Lib.byteCells l ++ [.int .u8 (c.toNat : Int)] := by simp [Lib.byteCells]
  rw [e]
  exact ho'
/-- append of a byte that lies in a block already, in a region that draws its order -/
theorem wpO_putc {w : World} {o : Oper} {a : Act} {K : Act → World → Prop} {Q : Exit → Act → World → Prop} (sl x : Operand)
    (ho : o.op = .call { callee := .builtin .append, args := #[sl, x], argTypes := #[34, 34] })
    (B : Nat) (r : Value) (l : List UInt8) (hs : a.eval sl = r) (hown : OwB w B r l) (g : Nat) (c : UInt8) (hx : a.eval x = .slice (some ⟨g, 0, none⟩) 1 1) (hg : w.cell? ⟨g, 0, none⟩ = some (.int .u8 (c.toNat : Int))) (hl : l.length + 1 ≤ 70368744177664) (hB : B ≤ w.heap.size)
    (h : ∀ r' w', OwB w' B r' (l ++ [c]) → Fq B w r w' → K (a.put o.dst r') w') : o.wp Tryz.prog a w K Q := by
  obtain ⟨i0, hi, hz0, hz1, hz2⟩ := info_parts info8
  refine wp_append_own _ sl x 34 ho B 5 i0 (.int .u8 0) 1 1 Tryz.underlying34 hi hz0 hz1 hz2 rfl (by decide) r l.length _ hs hown ⟨g, 0, none⟩ 1 1 [.int .u8 (c.toNat : Int)] hx rfl (fun j u hu => by
    rw [Addr.add_mid, Nat.zero_add]
    rcases j with _ | j
    · have hu : Value.int .u8 (c.toNat : Int) = u := by simpa using hu
      rw [hg, hu]
    · simp at hu) (by simp [Value.oneCell']) (by unfold maxLen; omega) (by omega) hB ?_
  intro r' w' ho' hgr _
  refine h r' w' ?_ (fq_grown hown hgr hB)
  unfold OwB
  rw [List.length_append, List.length_singleton]
  have e : Lib.byteCells (l ++ [c]) = Lib.byteCells l ++ [.int .u8 (c.toNat : Int)] := by simp [Lib.byteCells]
  rw [e]
  exact ho'
/-- what put does at a value of w0 -/
def PH (w0 : World) (v : Vl) : Prop :=
  ∀ (cs : List Value) (w : World) (r : Value) (l : List UInt8), VlC w0 v cs → Below w0.heap.size w0 w → OwB w w0.heap.size r l → l.length + 1100 * wtV v ≤ 70368744177664 →
    Calls Tryz.prog 37 #[r, .agg cs.toArray] w fun e w' => ∃ r', e = .returned r' ∧ OwB w' w0.heap.size r' (l ++ js NZ v) ∧ Fr w0.heap.size w w' ∧ (1 ≤ l.length → Fq w0.heap.size w r w')
end Go.Proofs.YtechaplindbfoaaGreatDoor.jsn
