import Derived.Test.YtechaplindbfoaaGreatDoorJpa8
import Derived.Lib.AppendStr
import Derived.Lib.Builder
import Derived.Shelf.Abstract
import Derived.Test.YtechaplindbfoaaGreatDoorRows
import Derived.WalkKit
import Derived.ProofKit
import Derived.OpenShut
import Derived.ShutString
import Derived.Below
import Derived.SizedLaws
import Derived.Deep.Strs
import Derived.Maps.OwnSet
import Derived.Maps.Views
import Derived.StringKeys
namespace Go.Proofs.YtechaplindbfoaaGreatDoor.jsn
open Go.ChangeShapes Go.WideShapes Go.ChangeAt Go.RowKit
open mem
open ints (hide unhide)
set_option linter.unusedVariables false

theorem cells_app' (l : List UInt8) (s : ByteArray) : Lib.byteCells l ++ Lib.strCells s = Lib.byteCells (l ++ s.data.toList) := by simp [Lib.byteCells, Lib.strCells]
/-- what the pens of Write and Size leave: blocks below B, and every block of values and members -/
structure Fr (B : Nat) (w w' : World) : Prop where
  bel : Below B w w'
  val : ∀ (j : Nat) (cs : Array Value) (T : TypeId) (fr : Nat × Nat), (T = 29 ∨ T = 45) → w.heap[j]? = some (Obj.cells cs T fr) → w'.heap[j]? = some (Obj.cells cs T fr)
theorem Fr.trans {B : Nat} {a b c : World} (h : Fr B a b) (k : Fr B b c) : Fr B a c := ⟨h.bel.trans k.bel, fun j cs T fr hT hj => k.val j cs T fr hT (h.val j cs T fr hT hj)⟩
theorem Fr.new {B : Nat} {w w' : World} (hB : B ≤ w.heap.size) (h : Below w.heap.size w w') : Fr B w w' :=
  ⟨h.mono hB, fun j cs T fr _ hj => (h.block j (Array.getElem?_eq_some_iff.1 hj).1).trans hj⟩
theorem Fr.refl (B : Nat) (w : World) : Fr B w w := ⟨Below.refl _ _, fun _ _ _ _ _ h => h⟩
/-- what Write's pen has laid: the slice in its variable, of its own; the error's variable beside it -/
structure wI (B bt be : Nat) (l : List UInt8) (w : World) : Prop where
  low : B ≤ bt ∧ B ≤ be ∧ be < w.heap.size
  err : w.heap[be]? = some (.cells #[.int .i64 0] 31 (0, 0))
  own : ∃ v, w.heap[bt]? = some (.cells #[v] 34 (0, 0)) ∧ w.ownsRow B 5 1 v l.length (Lib.byteCells l)
theorem lt_heap {w : World} {b : Nat} {o : Obj} (h : w.heap[b]? = some o) : b < w.heap.size := (Array.getElem?_eq_some_iff.1 h).1
theorem pen_w (B bt be : Nat) : Pen 27 #[.pointer (some ⟨bt, 0, none⟩)] B (wI B bt be) (Fr B) where
  gtrans := Fr.trans
  gnew := Fr.new
  gbel := Fr.bel
  low := fun l w h => by have := h.low; omega
  keep := fun l w w' h hb => by
    obtain ⟨⟨h1, h2, h3⟩, h4, v, h5, h6⟩ := h
    exact ⟨⟨h1, h2, Nat.lt_of_lt_of_le h3 hb.size⟩, (hb.block be h3).trans h4, v, (hb.block bt (lt_heap h5)).trans h5, own_below h6 hb⟩
  enters := enters_of Tryz.func27 (by kernel_rfl) rfl
  lays := by
    intro l s w h hl
    show Calls Tryz.prog 27 #[.string s, .pointer (some ⟨bt, 0, none⟩)] w _
    obtain ⟨⟨h1, h2, h3⟩, h4, v, h5, h6⟩ := h
    obtain ⟨i0, hi, hz0, hz1, hz2⟩ := info_parts info8
    have c1 : w.cell? ⟨bt, 0, none⟩ = some v := by rw [Lib.cell_of_heap h5]; rfl
    go_enter Tryz.func27, Tryz.ntmps27
    go_wp2_with (at_builtin; refine Lib.wpList_append_own_string _ rfl _ _ 34 9 rfl B 5 i0 Tryz.underlying34 Tryz.underlying9 hi hz0 hz1 hz2 _ _ _ rfl h6 s rfl ?c3 ?c4 ?c5 ?_)
    case c3 => unfold maxLen; omega
    case c4 => omega
    case c5 => omega
    intro v' w2 hown' hgrow _
    have n1 : v.ownBlock ≠ some bt := Lib.ownBlock_ne h6 h5 (by decide)
    have n2 : v.ownBlock ≠ some be := Lib.ownBlock_ne h6 h4 (by decide)
    have k5 : w2.heap[bt]? = some (.cells #[v] 34 (0, 0)) := by rw [hgrow.block bt (lt_heap h5) (fun e => n1 e.symm)]; exact h5
    have k4 : w2.heap[be]? = some (.cells #[.int .i64 0] 31 (0, 0)) := by rw [hgrow.block be h3 (fun e => n2 e.symm)]; exact h4
    have d1 : w2.cell? ⟨bt, 0, none⟩ = some v := by rw [Lib.cell_of_heap k5]; rfl
    have f1 : w2.frozen? ⟨bt, 0, none⟩ = false := Lib.frozen_of_heap k5 0
    have hne : bt ≠ be := by
      intro e
      rw [e, k4] at k5
      simp at k5
    obtain ⟨ao, n', cap', rfl⟩ : ∃ ao n' cap, v' = .slice ao n' cap := by
      rcases hown'.2 with ⟨hv, _⟩ | ⟨g, cap, cur, hv, _⟩
      · exact ⟨_, _, _, hv⟩
      · exact ⟨_, _, _, hv⟩
    have HG := hide hgrow
    have H6 := hide h6
    have HO := hide hown'
    have K4 := hide k4
    have K5 := hide k5
    clear hgrow h6 hown' k4 k5 h4 h5 n1 n2 c1
    go_wp2
    go_end0
    have hgrow := unhide HG
    have h6 := unhide H6
    have hown' := unhide HO
    have k4 := unhide K4
    have k5 := unhide K5
    have hb : Below B w (w2.setCell ⟨bt, 0, none⟩ (.slice ao n' cap')) := ((Below.refl _ w).grown hgrow (by omega) (fun k hk => (h6.lt k hk).1)).setCell (p := ⟨bt, 0, none⟩) h1 _
    have m1 : (Value.slice ao n' cap').ownBlock ≠ some bt := Lib.ownBlock_ne hown' k5 (by decide)
    refine ⟨rfl, ⟨⟨h1, h2, Nat.lt_of_lt_of_le h3 hb.size⟩, ?_, .slice ao n' cap', ?_, ?_⟩, hb, ?_⟩
    · rw [Below.heap_setCell _ _ _ _ (fun e => hne e.symm)]; exact k4
    · simp [World.setCell, Array.getElem?_modify, k5]
    · rw [← cells_app', List.length_append]
      exact hown'.kept (row := some bt) ⟨rfl, rfl, rfl, by simp [World.setCell], fun k _ hk => Below.heap_setCell _ _ _ _ (fun e => hk (by simp [e]))⟩ (Or.inr m1)
    · intro j cs T fr hT hj
      have hjl := lt_heap hj
      have j1 : v.ownBlock ≠ some j := by
        rcases hT with rfl | rfl
        · exact Lib.ownBlock_ne h6 hj (by decide)
        · exact Lib.ownBlock_ne h6 hj (by decide)
      have j2 : w2.heap[j]? = some (.cells cs T fr) := by rw [hgrow.block j hjl (fun e => j1 e.symm)]; exact hj
      have j3 : j ≠ bt := by
        intro e
        rcases hT with rfl | rfl
        · rw [e, k5] at j2
          simp at j2
        · rw [e, k5] at j2
          simp at j2
      rw [Below.heap_setCell _ _ _ _ j3]; exact j2
/-- what Size's pen has counted -/
structure sI (B bt be : Nat) (l : List UInt8) (w : World) : Prop where
  low : B ≤ bt ∧ B ≤ be
  err : w.heap[be]? = some (.cells #[.int .i64 0] 31 (0, 0))
  num : w.heap[bt]? = some (.cells #[.int .i64 l.length] 3 (0, 0))
  few : l.length ≤ 70368744177664
theorem pen_s (B bt be : Nat) : Pen 25 #[.pointer (some ⟨bt, 0, none⟩)] B (sI B bt be) (Fr B) where
  gtrans := Fr.trans
  gnew := Fr.new
  gbel := Fr.bel
  low := fun l w h => by have := h.low; have := lt_heap h.num; omega
  keep := fun l w w' h hb => by
    obtain ⟨⟨h1, h2⟩, h4, h5, h6⟩ := h
    exact ⟨⟨h1, h2⟩, (hb.block be (lt_heap h4)).trans h4, (hb.block bt (lt_heap h5)).trans h5, h6⟩
  enters := enters_of Tryz.func25 (by kernel_rfl) rfl
  lays := by
    intro l s w h hl
    show Calls Tryz.prog 25 #[.string s, .pointer (some ⟨bt, 0, none⟩)] w _
    obtain ⟨⟨h1, h2⟩, h4, h5, h6⟩ := h
    have hne : bt ≠ be := by
      intro e
      rw [e, h4] at h5
      simp at h5
    have c1 : w.cell? ⟨bt, 0, none⟩ = some (.int .i64 l.length) := by rw [Lib.cell_of_heap h5]; rfl
    have f1 : w.frozen? ⟨bt, 0, none⟩ = false := Lib.frozen_of_heap h5 0
    go_enter Tryz.func25, Tryz.ntmps25
    go_wp2
    go_end0
    have hlen : (l ++ s.data.toList).length = l.length + s.size := by rw [List.length_append, Array.length_toList]; rfl
    refine ⟨rfl, ⟨⟨h1, h2⟩, ?_, ?_, by omega⟩, (Below.refl _ w).setCell (p := ⟨bt, 0, none⟩) h1 _, ?_⟩
    · rw [Below.heap_setCell _ _ _ _ (fun e => hne e.symm)]; exact h4
    · rw [hlen]; simp [World.setCell, Array.getElem?_modify, h5]
    · intro j cs T fr hT hj
      have j3 : j ≠ bt := by
        intro e
        rcases hT with rfl | rfl
        · rw [e, h5] at hj
          simp at hj
        · rw [e, h5] at hj
          simp at hj
      rw [Below.heap_setCell _ _ _ _ j3]; exact hj
end Go.Proofs.YtechaplindbfoaaGreatDoor.jsn
namespace Go.Proofs.YtechaplindbfoaaGreatDoor.vl
open Go.ChangeShapes Go.WideShapes Go.ChangeAt Go.RowKit
set_option linter.unusedVariables false
mutual
/-- an api.Value -/
inductive Vl where
  | mk (kd : Int) (b : Bool) (n : Int) (f : Nat) (tx ty : ByteArray) (its : Vls) (fls : Fls)
/-- a list of values -/
inductive Vls where
  | nil
  | cons (v : Vl) (r : Vls)
/-- a list of members -/
inductive Fls where
  | nil
  | cons (nm : ByteArray) (v : Vl) (r : Fls)
end
def Row8 (w : World) (b off : Nat) (cs : List Value) : Prop := ∀ i u, cs[i]? = some u → w.cell? ⟨b, off + i, none⟩ = some u
mutual
/-- these eight cells are the value v -/
def VlC (w : World) : Vl → List Value → Prop
  | .mk kd b n f tx ty its fls, cs => ∃ (ai : Option Addr) (ni ci : Nat) (af : Option Addr) (nf cf : Nat), cs = [.int .i64 kd, .bool b, .int .i64 n, .float .f64 f, .string tx, .string ty, .slice ai ni ci, .slice af nf cf] ∧
      VlsAt w its ai ni ∧ FlsAt w fls af nf ∧ ni ≤ ci ∧ nf ≤ cf ∧ (ai = none → ci = 0) ∧ (af = none → cf = 0) ∧ (Lit.int .i64 kd).wf = true ∧ (Lit.int .i64 n).wf = true ∧ tx.size ≤ maxLen ∧ ty.size ≤ maxLen ∧ ci ≤ maxLen ∧ cf ≤ maxLen
def VlsAt (w : World) : Vls → Option Addr → Nat → Prop
  | .nil, _, n => n = 0
  | .cons v r, a, n => ∃ (b off m : Nat) (cs : List Value), a = some ⟨b, off, none⟩ ∧ n = m + 1 ∧ Row8 w b off cs ∧ VlC w v cs ∧ VlsAt w r (some ⟨b, off + 8, none⟩) m
def FlsAt (w : World) : Fls → Option Addr → Nat → Prop
  | .nil, _, n => n = 0
  | .cons nm v r, a, n => ∃ (b off m : Nat) (cs : List Value), a = some ⟨b, off, none⟩ ∧ n = m + 1 ∧ w.cell? ⟨b, off, none⟩ = some (.string nm) ∧ nm.size ≤ maxLen ∧ Row8 w b (off + 1) cs ∧ VlC w v cs ∧ FlsAt w r (some ⟨b, off + 9, none⟩) m
end
theorem Row8.below {w w' : World} {b off : Nat} {cs : List Value} (h : Row8 w b off cs) (hb : Below w.heap.size w w') : Row8 w' b off cs := by
  intro i u hu
  have h1 := h i u hu
  exact (hb.cell (World.block_lt_of_cell? w _ h1)).trans h1
mutual
theorem VlC.below {w w' : World} (hb : Below w.heap.size w w') : ∀ (v : Vl) (cs : List Value), VlC w v cs → VlC w' v cs
  | .mk kd b n f tx ty its fls, cs, h => by
    unfold VlC at h ⊢
    obtain ⟨ai, ni, ci, af, nf, cf, rfl, h1, h2, r⟩ := h
    exact ⟨ai, ni, ci, af, nf, cf, rfl, VlsAt.below hb its ai ni h1, FlsAt.below hb fls af nf h2, r⟩
theorem VlsAt.below {w w' : World} (hb : Below w.heap.size w w') : ∀ (l : Vls) (a : Option Addr) (n : Nat), VlsAt w l a n → VlsAt w' l a n
  | .nil, a, n, h => by unfold VlsAt at h ⊢; exact h
  | .cons v r, a, n, h => by
    unfold VlsAt at h ⊢
    obtain ⟨b, off, m, cs, rfl, rfl, h1, h2, h3⟩ := h
    exact ⟨b, off, m, cs, rfl, rfl, h1.below hb, VlC.below hb v cs h2, VlsAt.below hb r _ m h3⟩
theorem FlsAt.below {w w' : World} (hb : Below w.heap.size w w') : ∀ (l : Fls) (a : Option Addr) (n : Nat), FlsAt w l a n → FlsAt w' l a n
  | .nil, a, n, h => by unfold FlsAt at h ⊢; exact h
  | .cons nm v r, a, n, h => by
    unfold FlsAt at h ⊢
    obtain ⟨b, off, m, cs, rfl, rfl, h0, hz, h1, h2, h3⟩ := h
    exact ⟨b, off, m, cs, rfl, rfl, (hb.cell (World.block_lt_of_cell? w _ h0)).trans h0, hz, h1.below hb, VlC.below hb v cs h2, FlsAt.below hb r _ m h3⟩
end
theorem vls_of (w : World) (b : Nat) : ∀ (n off : Nat), (∀ i, i < n → ∃ cs v, Row8 w b (off + i * 8) cs ∧ VlC w v cs) → ∃ l, VlsAt w l (some ⟨b, off, none⟩) n
  | 0, off, _ => ⟨.nil, by unfold VlsAt; rfl⟩
  | n + 1, off, h => by
    obtain ⟨cs, v, h1, h2⟩ := h 0 (by omega)
    obtain ⟨l, hl⟩ := vls_of w b n (off + 8) (fun i hi => by
      obtain ⟨cs, v, h1, h2⟩ := h (i + 1) (by omega)
      exact ⟨cs, v, by rw [show off + 8 + i * 8 = off + (i + 1) * 8 by omega]; exact h1, h2⟩)
    refine ⟨.cons v l, ?_⟩
    unfold VlsAt
    exact ⟨b, off, n, cs, rfl, rfl, by simpa using h1, h2, hl⟩
theorem fls_of (w : World) (b : Nat) : ∀ (n off : Nat), (∀ i, i < n → ∃ nm cs v, w.cell? ⟨b, off + i * 9, none⟩ = some (.string nm) ∧ nm.size ≤ maxLen ∧ Row8 w b (off + i * 9 + 1) cs ∧ VlC w v cs) → ∃ l, FlsAt w l (some ⟨b, off, none⟩) n
  | 0, off, _ => ⟨.nil, by unfold FlsAt; rfl⟩
  | n + 1, off, h => by
    obtain ⟨nm, cs, v, h0, hz, h1, h2⟩ := h 0 (by omega)
    obtain ⟨l, hl⟩ := fls_of w b n (off + 9) (fun i hi => by
      obtain ⟨nm, cs, v, h0, hz, h1, h2⟩ := h (i + 1) (by omega)
      exact ⟨nm, cs, v, by rw [show off + 9 + i * 9 = off + (i + 1) * 9 by omega]; exact h0, hz, by rw [show off + 9 + i * 9 = off + (i + 1) * 9 by omega]; exact h1, h2⟩)
    refine ⟨.cons nm v l, ?_⟩
    unfold FlsAt
    exact ⟨b, off, n, cs, rfl, rfl, by simpa using h0, hz, by simpa using h1, h2, hl⟩
end Go.Proofs.YtechaplindbfoaaGreatDoor.vl
namespace Go.Proofs.YtechaplindbfoaaGreatDoor.vl
open Go.ChangeShapes Go.WideShapes Go.ChangeAt Go.RowKit
set_option linter.unusedVariables false
section
variable {H : Type} {enc : TypeId × Value → H} {w : World} {base : Nat} {held : Bool}
theorem trod_float {P : Program} {spare : Nat → Bool} {fuel : Nat} {t : TypeId} {cs : List Value} {x : DataW H × List MemPlace} {k : FloatKind} (ht : P.underlying t = some (.float k)) (h : DataW.trod enc P w base spare held fuel t cs = some x) : ∃ n, cs = [.float k n] ∧ x = (.lit (.float k n), []) ∧ (Lit.float k n).wf = true := by
  cases fuel with
  | zero => simp [DataW.trod] at h
  | succ n =>
    unfold DataW.trod at h
    rw [ht] at h
    split at h <;> simp_all
theorem struct8 {P : Program} {spare : Nat → Bool} {t : TypeId} {f0 f1 f2 f3 f4 f5 f6 f7 : Field} {fuel : Nat} {cs : List Value} {x : DataW H × List MemPlace} (ht : P.underlying t = some (.struct #[f0, f1, f2, f3, f4, f5, f6, f7])) (h : DataW.trod enc P w base spare held fuel t cs = some x) :
    ∃ x0 x1 x2 x3 x4 x5 x6 x7 n, fuel = n + 1 ∧ cs.length = P.cellsOf t ∧
      DataW.trod enc P w base spare held n f0.type ((cs.drop f0.offset).take (P.cellsOf f0.type)) = some x0 ∧
      DataW.trod enc P w base spare held n f1.type ((cs.drop f1.offset).take (P.cellsOf f1.type)) = some x1 ∧
      DataW.trod enc P w base spare held n f2.type ((cs.drop f2.offset).take (P.cellsOf f2.type)) = some x2 ∧
      DataW.trod enc P w base spare held n f3.type ((cs.drop f3.offset).take (P.cellsOf f3.type)) = some x3 ∧
      DataW.trod enc P w base spare held n f4.type ((cs.drop f4.offset).take (P.cellsOf f4.type)) = some x4 ∧
      DataW.trod enc P w base spare held n f5.type ((cs.drop f5.offset).take (P.cellsOf f5.type)) = some x5 ∧
      DataW.trod enc P w base spare held n f6.type ((cs.drop f6.offset).take (P.cellsOf f6.type)) = some x6 ∧
      DataW.trod enc P w base spare held n f7.type ((cs.drop f7.offset).take (P.cellsOf f7.type)) = some x7 := by
  obtain ⟨xs, n, hfu, _, hl, hlen, hf⟩ := DataW.trod_struct ht h
  match xs, hlen with
  | [x0, x1, x2, x3, x4, x5, x6, x7], _ => exact ⟨x0, x1, x2, x3, x4, x5, x6, x7, n, hfu, hl, by simpa using hf 0 f0 rfl, by simpa using hf 1 f1 rfl, by simpa using hf 2 f2 rfl, by simpa using hf 3 f3 rfl, by simpa using hf 4 f4 rfl, by simpa using hf 5 f5 rfl, by simpa using hf 6 f6 rfl, by simpa using hf 7 f7 rfl⟩
theorem struct2 {P : Program} {spare : Nat → Bool} {t : TypeId} {f0 f1 : Field} {fuel : Nat} {cs : List Value} {x : DataW H × List MemPlace} (ht : P.underlying t = some (.struct #[f0, f1])) (h : DataW.trod enc P w base spare held fuel t cs = some x) :
    ∃ x0 x1 n, fuel = n + 1 ∧ cs.length = P.cellsOf t ∧
      DataW.trod enc P w base spare held n f0.type ((cs.drop f0.offset).take (P.cellsOf f0.type)) = some x0 ∧
      DataW.trod enc P w base spare held n f1.type ((cs.drop f1.offset).take (P.cellsOf f1.type)) = some x1 := by
  obtain ⟨xs, n, hfu, _, hl, hlen, hf⟩ := DataW.trod_struct ht h
  match xs, hlen with
  | [x0, x1], _ => exact ⟨x0, x1, n, hfu, hl, by simpa using hf 0 f0 rfl, by simpa using hf 1 f1 rfl⟩
theorem list_eight {α : Type} {l : List α} (h : l.length = 8) : ∃ a b c d e f g i, l = [a, b, c, d, e, f, g, i] := by
  match l, h with
  | [a, b, c, d, e, f, g, i], _ => exact ⟨a, b, c, d, e, f, g, i, rfl⟩
theorem list_nine {α : Type} {l : List α} (h : l.length = 9) : ∃ a r, l = a :: r ∧ r.length = 8 := by
  match l, h with
  | a :: r, h => exact ⟨a, r, rfl, by simpa using h⟩
theorem cellsV : Tryz.prog.cellsOf 29 = 8 := by kernel_rfl
theorem cellsM : Tryz.prog.cellsOf 45 = 9 := by kernel_rfl
theorem cK : Tryz.prog.cellsOf 25 = 1 := by kernel_rfl
theorem cB : Tryz.prog.cellsOf 4 = 1 := by kernel_rfl
theorem cI : Tryz.prog.cellsOf 2 = 1 := by kernel_rfl
theorem cF : Tryz.prog.cellsOf 26 = 1 := by kernel_rfl
theorem cS : Tryz.prog.cellsOf 9 = 1 := by kernel_rfl
theorem cIt : Tryz.prog.cellsOf 22 = 1 := by kernel_rfl
theorem cFl : Tryz.prog.cellsOf 27 = 1 := by kernel_rfl
theorem row_of {a : Addr} {n : Nat} {cs : List Value} (h : w.cells? base a n = some cs) (hs : a.spot = none) : cs.length = n ∧ Row8 w a.block a.off cs := by
  obtain ⟨_, hl, hc⟩ := World.cells?_some h
  refine ⟨hl, fun i u hu => ?_⟩
  have hi : i < n := by rw [← hl]; exact (List.getElem?_eq_some_iff.1 hu).1
  have := (hc i hi).trans hu
  obtain ⟨b, off, spot⟩ := a
  simp only at hs
  subst hs
  rw [Addr.add_lit] at this
  exact this
theorem spot_of {a : Addr} {n : Nat} {cs : List Value} (h : w.cells? base a n = some cs) (hn : 0 < n) : a.spot = none := by
  obtain ⟨_, hl, hc⟩ := World.cells?_some h
  have h0 := hc 0 hn
  obtain ⟨b, off, spot⟩ := a
  have : w.cell? (⟨b, off, spot⟩ : Addr) = some (cs[0]'(by omega)) := by
    have e : cs[0]? = some (cs[0]'(by omega)) := by simp
    rw [e] at h0
    simpa [Addr.add] using h0
  simpa using World.cell?_spot this
theorem val_of : ∀ (fuel : Nat) (cs : List Value) (x : DataW H × List MemPlace), DataW.trod enc Tryz.prog w base (fun _ => true) held fuel 29 cs = some x → ∃ v, VlC w v cs := by
  intro fuel
  induction fuel using Nat.strongRecOn with
  | _ fuel ih =>
    intro cs x h
    obtain ⟨x0, x1, x2, x3, x4, x5, x6, x7, n, hfu, hl, f0, f1, f2, f3, f4, f5, f6, f7⟩ := struct8 Tryz.underlying29 h
    rw [cellsV] at hl
    obtain ⟨c0, c1, c2, c3, c4, c5, c6, c7, rfl⟩ := list_eight hl
    simp only [cK, cB, cI, cF, cS, cIt, cFl, List.drop_zero, List.drop_succ_cons, List.take_succ_cons, List.take_zero] at f0 f1 f2 f3 f4 f5 f6 f7
    obtain ⟨kd, e0, _, w0⟩ := DataW.trod_int Tryz.underlying25 f0
    obtain ⟨b, e1, _⟩ := DataW.trod_bool Tryz.underlying4 f1
    obtain ⟨m, e2, _, w2⟩ := DataW.trod_int Tryz.underlying2 f2
    obtain ⟨fl, e3, _, w3⟩ := trod_float Tryz.underlying26 f3
    obtain ⟨tx, e4, _, w4⟩ := DataW.trod_string Tryz.underlying9 f4
    obtain ⟨ty, e5, _, w5⟩ := DataW.trod_string Tryz.underlying9 f5
    simp only [List.cons.injEq, and_true] at e0 e1 e2 e3 e4 e5
    subst e0 e1 e2 e3 e4 e5
    have hI : ∃ (ai : Option Addr) (ni ci : Nat) (l : Vls), c6 = .slice ai ni ci ∧ VlsAt w l ai ni ∧ ni ≤ ci ∧ (ai = none → ci = 0) ∧ ci ≤ maxLen := by
      rcases DataW.trod_slice Tryz.underlying22 f6 with ⟨hc, _⟩ | ⟨a, len, cap, elems, rest, k, hk, hc, _, _, hlc, hcm, hel, hcell, _, _⟩
      · simp at hc
        exact ⟨none, 0, 0, .nil, hc, by unfold VlsAt; rfl, Nat.le_refl _, fun _ => rfl, Nat.zero_le _⟩
      · simp at hc
        have key : ∀ i, i < len → ∃ cs v, w.cells? base (a.add (i * 8)) 8 = some cs ∧ VlC w v cs := by
          intro i hi
          have h1 := hcell i hi
          rw [cellsV, List.getElem?_eq_getElem (show i < elems.length by omega), Option.bind_eq_some_iff] at h1
          obtain ⟨cs, h2, h3⟩ := h1
          obtain ⟨v, hv⟩ := ih k (by omega) cs _ h3
          exact ⟨cs, v, h2, hv⟩
        by_cases h0 : len = 0
        · subst h0
          exact ⟨some a, 0, cap, .nil, hc, by unfold VlsAt; rfl, by omega, fun e => (by cases e), hcm⟩
        · have hsp : a.spot = none := by
            obtain ⟨cs, v, h1, _⟩ := key 0 (by omega)
            have := spot_of h1 (by omega)
            simpa [Addr.add] using this
          obtain ⟨bb, off, spot⟩ := a
          simp only at hsp
          subst hsp
          obtain ⟨l, hl⟩ := vls_of w bb len off (fun i hi => by
            obtain ⟨cs, v, h1, h2⟩ := key i hi
            rw [Addr.add_lit] at h1
            exact ⟨cs, v, (row_of h1 rfl).2, h2⟩)
          exact ⟨some ⟨bb, off, none⟩, len, cap, l, hc, hl, hlc, fun e => (by cases e), hcm⟩
    have hM : ∃ (ai : Option Addr) (ni ci : Nat) (l : Fls), c7 = .slice ai ni ci ∧ FlsAt w l ai ni ∧ ni ≤ ci ∧ (ai = none → ci = 0) ∧ ci ≤ maxLen := by
      rcases DataW.trod_slice Tryz.underlying27 f7 with ⟨hc, _⟩ | ⟨a, len, cap, elems, rest, k, hk, hc, _, _, hlc, hcm, hel, hcell, _, _⟩
      · simp at hc
        exact ⟨none, 0, 0, .nil, hc, by unfold FlsAt; rfl, Nat.le_refl _, fun _ => rfl, Nat.zero_le _⟩
      · simp at hc
        have key : ∀ i, i < len → ∃ nm cs v, w.cells? base (a.add (i * 9)) 9 = some (.string nm :: cs) ∧ nm.size ≤ maxLen ∧ VlC w v cs := by
          intro i hi
          have h1 := hcell i hi
          rw [cellsM, List.getElem?_eq_getElem (show i < elems.length by omega), Option.bind_eq_some_iff] at h1
          obtain ⟨cs, h2, h3⟩ := h1
          obtain ⟨y0, y1, q, hq, hl9, g0, g1⟩ := struct2 Tryz.underlying45 h3
          rw [cellsM] at hl9
          obtain ⟨c, r, rfl, hr⟩ := list_nine hl9
          simp only [cS, cellsV, List.drop_zero, List.drop_succ_cons, List.take_succ_cons, List.take_zero] at g0 g1
          rw [List.take_of_length_le (by omega)] at g1
          obtain ⟨nm, e, _, hz⟩ := DataW.trod_string Tryz.underlying9 g0
          simp only [List.cons.injEq, and_true] at e
          subst e
          obtain ⟨v, hv⟩ := ih q (by omega) r _ g1
          exact ⟨nm, r, v, h2, hz, hv⟩
        by_cases h0 : len = 0
        · subst h0
          exact ⟨some a, 0, cap, .nil, hc, by unfold FlsAt; rfl, by omega, fun e => (by cases e), hcm⟩
        · have hsp : a.spot = none := by
            obtain ⟨nm, cs, v, h1, _⟩ := key 0 (by omega)
            have := spot_of h1 (by omega)
            simpa [Addr.add] using this
          obtain ⟨bb, off, spot⟩ := a
          simp only at hsp
          subst hsp
          obtain ⟨l, hl⟩ := fls_of w bb len off (fun i hi => by
            obtain ⟨nm, cs, v, h1, hz, h2⟩ := key i hi
            rw [Addr.add_lit] at h1
            have hrow : Row8 w bb (off + i * 9) (.string nm :: cs) := (row_of h1 rfl).2
            refine ⟨nm, cs, v, by simpa using hrow 0 (.string nm) rfl, hz, fun j u hu => ?_, h2⟩
            have := hrow (j + 1) u (by simpa using hu)
            rw [show off + i * 9 + 1 + j = off + i * 9 + (j + 1) by omega]
            exact this)
          exact ⟨some ⟨bb, off, none⟩, len, cap, l, hc, hl, hlc, fun e => (by cases e), hcm⟩
    obtain ⟨ai, ni, ci, its, rfl, hI1, hI2, hI3, hI4⟩ := hI
    obtain ⟨af, nf, cf, fls, rfl, hM1, hM2, hM3, hM4⟩ := hM
    refine ⟨.mk kd b m fl tx ty its fls, ?_⟩
    unfold VlC
    exact ⟨ai, ni, ci, af, nf, cf, rfl, hI1, hM1, hI2, hM2, hI3, hM3, w0, w2, w4, w5, hI4, hM4⟩
end
end Go.Proofs.YtechaplindbfoaaGreatDoor.vl
namespace Go.Proofs.YtechaplindbfoaaGreatDoor.vl
open Go.ChangeShapes Go.WideShapes Go.ChangeAt Go.RowKit
set_option linter.unusedVariables false
def Vls.list : Vls → List Vl
  | .nil => []
  | .cons v r => v :: r.list
def Fls.list : Fls → List (ByteArray × Vl)
  | .nil => []
  | .cons nm v r => (nm, v) :: r.list
theorem VlsAt.len {w : World} : ∀ (l : Vls) (a : Option Addr) (n : Nat), VlsAt w l a n → l.list.length = n
  | .nil, a, n, h => by unfold VlsAt at h; rw [h]; rfl
  | .cons v r, a, n, h => by
    unfold VlsAt at h
    obtain ⟨b, off, m, cs, _, rfl, _, _, h3⟩ := h
    have := VlsAt.len r _ m h3
    simp [Vls.list, this]
theorem FlsAt.len {w : World} : ∀ (l : Fls) (a : Option Addr) (n : Nat), FlsAt w l a n → l.list.length = n
  | .nil, a, n, h => by unfold FlsAt at h; rw [h]; rfl
  | .cons nm v r, a, n, h => by
    unfold FlsAt at h
    obtain ⟨b, off, m, cs, _, rfl, _, _, _, _, h3⟩ := h
    have := FlsAt.len r _ m h3
    simp [Fls.list, this]
/-- the i-th value of a list lies in the i-th eight cells -/
theorem VlsAt.get {w : World} : ∀ (l : Vls) (a : Option Addr) (n : Nat), VlsAt w l a n → ∀ i, i < n → ∃ (b off : Nat) (v : Vl) (cs : List Value), a = some ⟨b, off, none⟩ ∧ l.list[i]? = some v ∧ Row8 w b (off + i * 8) cs ∧ VlC w v cs
  | .nil, a, n, h, i, hi => by unfold VlsAt at h; omega
  | .cons v r, a, n, h, i, hi => by
    unfold VlsAt at h
    obtain ⟨b, off, m, cs, rfl, rfl, h1, h2, h3⟩ := h
    match i with
    | 0 => exact ⟨b, off, v, cs, rfl, rfl, by simpa using h1, h2⟩
    | i + 1 =>
      obtain ⟨b', off', v', cs', e, g, r1, r2⟩ := VlsAt.get r _ m h3 i (by omega)
      simp only [Option.some.injEq, Addr.mk.injEq, and_true] at e
      obtain ⟨rfl, rfl⟩ := e
      exact ⟨b, off, v', cs', rfl, by simpa [Vls.list] using g, by rw [show off + (i + 1) * 8 = off + 8 + i * 8 by omega]; exact r1, r2⟩
/-- the i-th member: its name, then its value's eight cells -/
theorem FlsAt.get {w : World} : ∀ (l : Fls) (a : Option Addr) (n : Nat), FlsAt w l a n → ∀ i, i < n → ∃ (b off : Nat) (nm : ByteArray) (v : Vl) (cs : List Value), a = some ⟨b, off, none⟩ ∧ l.list[i]? = some (nm, v) ∧ w.cell? ⟨b, off + i * 9, none⟩ = some (.string nm) ∧ nm.size ≤ maxLen ∧ Row8 w b (off + i * 9 + 1) cs ∧ VlC w v cs
  | .nil, a, n, h, i, hi => by unfold FlsAt at h; omega
  | .cons nm v r, a, n, h, i, hi => by
    unfold FlsAt at h
    obtain ⟨b, off, m, cs, rfl, rfl, h0, hz, h1, h2, h3⟩ := h
    match i with
    | 0 => exact ⟨b, off, nm, v, cs, rfl, rfl, by simpa using h0, hz, by simpa using h1, h2⟩
    | i + 1 =>
      obtain ⟨b', off', nm', v', cs', e, g, r0, rz, r1, r2⟩ := FlsAt.get r _ m h3 i (by omega)
      simp only [Option.some.injEq, Addr.mk.injEq, and_true] at e
      obtain ⟨rfl, rfl⟩ := e
      exact ⟨b, off, nm', v', cs', rfl, by simpa [Fls.list] using g, by rw [show off + (i + 1) * 9 = off + 9 + i * 9 by omega]; exact r0, rz, by rw [show off + (i + 1) * 9 + 1 = off + 9 + i * 9 + 1 by omega]; exact r1, r2⟩
/-- a value handed over whole: its eight cells in one row -/
theorem VlC.cells {w : World} {v : Vl} {cs : List Value} (h : VlC w v cs) : cs.length = 8 := by
  cases v
  unfold VlC at h
  obtain ⟨_, _, _, _, _, _, rfl, _⟩ := h
  rfl
/-- eight cells of a row, one by one -/
theorem Row8.eight {w : World} {b off : Nat} {c0 c1 c2 c3 c4 c5 c6 c7 : Value} (h : Row8 w b off [c0, c1, c2, c3, c4, c5, c6, c7]) :
    w.cell? ⟨b, off, none⟩ = some c0 ∧ w.cell? ⟨b, off + 1, none⟩ = some c1 ∧ w.cell? ⟨b, off + 2, none⟩ = some c2 ∧ w.cell? ⟨b, off + 3, none⟩ = some c3 ∧ w.cell? ⟨b, off + 4, none⟩ = some c4 ∧ w.cell? ⟨b, off + 5, none⟩ = some c5 ∧ w.cell? ⟨b, off + 6, none⟩ = some c6 ∧ w.cell? ⟨b, off + 7, none⟩ = some c7 :=
  ⟨h 0 c0 rfl, h 1 c1 rfl, h 2 c2 rfl, h 3 c3 rfl, h 4 c4 rfl, h 5 c5 rfl, h 6 c6 rfl, h 7 c7 rfl⟩
end Go.Proofs.YtechaplindbfoaaGreatDoor.vl
namespace Go.Proofs.YtechaplindbfoaaGreatDoor.vl
open Go.ChangeShapes Go.WideShapes Go.ChangeAt Go.RowKit
set_option linter.unusedVariables false
mutual
/-- what holds of a value when it holds of its items and its members' values holds of every value -/
theorem Vl.all {P : Vl → Prop} (step : ∀ kd b n f tx ty its fls, (∀ v ∈ Vls.list its, P v) → (∀ q ∈ Fls.list fls, P q.2) → P (.mk kd b n f tx ty its fls)) : ∀ v, P v
  | .mk kd b n f tx ty its fls => step kd b n f tx ty its fls (Vls.all step its) (Fls.all step fls)
theorem Vls.all {P : Vl → Prop} (step : ∀ kd b n f tx ty its fls, (∀ v ∈ Vls.list its, P v) → (∀ q ∈ Fls.list fls, P q.2) → P (.mk kd b n f tx ty its fls)) : ∀ l : Vls, ∀ v ∈ l.list, P v
  | .nil, v, h => by simp [Vls.list] at h
  | .cons u r, v, h => by
    simp only [Vls.list, List.mem_cons] at h
    rcases h with h | h
    · rw [h]; exact Vl.all step u
    · exact Vls.all step r v h
theorem Fls.all {P : Vl → Prop} (step : ∀ kd b n f tx ty its fls, (∀ v ∈ Vls.list its, P v) → (∀ q ∈ Fls.list fls, P q.2) → P (.mk kd b n f tx ty its fls)) : ∀ l : Fls, ∀ q ∈ l.list, P q.2
  | .nil, q, h => by simp [Fls.list] at h
  | .cons nm u r, q, h => by
    simp only [Fls.list, List.mem_cons] at h
    rcases h with h | h
    · rw [h]; exact Vl.all step u
    · exact Fls.all step r q h
end
end Go.Proofs.YtechaplindbfoaaGreatDoor.vl
namespace Go.Proofs.YtechaplindbfoaaGreatDoor.jsn
open Go.ChangeShapes Go.WideShapes Go.ChangeAt Go.RowKit
open mem vl Go.Maps
open ints (hide unhide)
set_option linter.unusedVariables false
theorem lawS : Keyed Tryz.prog 9 := string_keyed Tryz.underlying9
theorem zeroU (w : World) : (zeroValue 108).run Tryz.prog w = .ok (.agg #[]) w := by kernel_rfl
theorem mapHint (n : Int) (w : World) : (Instr.makeMap 107 (some (.int .i64 n))).run Tryz.prog w = .ok (.map (some w.heap.size)) (w.alloc (.map #[] 0)) := by
  simp [Instr.makeMap, go_sem, run_underlying Tryz.underlying107]
theorem unclean_ok (s : ByteArray) (w : World) (hs : s.size ≤ 9223372036854775807) (hc : cln s = true) :
    Calls Tryz.prog 41 #[.string s] w fun e w' => e = .returned (.tuple #[]) ∧ Below w.heap.size w w' := by
  have C := clean_str s w hs
  have hC : ((((decZ (bytesZ s)).2 : Nat) : Int) == (s.size : Int)) = cln s := rfl
  rw [hC, hc] at C
  clear hC hc
  have C := hide C
  go_enter Tryz.func41, Tryz.ntmps41
  go_wp2_with fail
  refine (unhide C).mono ?_
  rintro e w1 ⟨rfl, b1⟩
  clear C
  go_wp2
  go_end0
  exact ⟨rfl, b1⟩
theorem map_below {H : Type} {P : Program} {k : TypeId} {R : Value → Option (DataW H × List MemPlace)} {w w' : World} {b n : Nat} {D : DataW H} (h : w.ownsMap P k R b n D) (hb : Below w.heap.size w w') : w'.ownsMap P k R b n D := by
  have hlt := h.lt
  obtain ⟨es, clock, hh, r⟩ := h
  exact ⟨es, clock, (hb.block b hlt).trans hh, r⟩
def nms (fls : Fls) : List Lit := fls.list.map fun p => Lit.string p.1.data.toList
theorem nms_key (fls : Fls) (k : Nat) : ∀ x ∈ (nms fls).take k, WideAt.IsKeyLit x := by
  intro x hx
  have := List.mem_of_mem_take hx
  unfold nms at this
  rw [List.mem_map] at this
  obtain ⟨p, _, rfl⟩ := this
  trivial
theorem nms_new {fls : Fls} (hd : (nms fls).Nodup) {k : Nat} {x : Lit} (hx : (nms fls)[k]? = some x) : Maps.has (Maps.setOf (H := Unit) (.agg []) ((nms fls).take k)) x = false := by
  rw [Maps.has_setOf _ _ _ (nms_key fls k), Bool.eq_false_iff]
  intro h
  rw [List.any_eq_true] at h
  obtain ⟨y, hy, e⟩ := h
  have e := WideAt.sameKey_eq e
  subst e
  obtain ⟨hk, hx⟩ := List.getElem?_eq_some_iff.1 hx
  obtain ⟨j, hj, hjy⟩ := List.mem_take_iff_getElem.1 hy
  have := (List.getElem_inj hd).1 (hjy.trans hx.symm)
  omega
theorem nms_snoc {fls : Fls} {k : Nat} {x : Lit} (hx : (nms fls)[k]? = some x) : Maps.setOf (H := Unit) (.agg []) ((nms fls).take (k + 1)) = (Maps.setOf (.agg []) ((nms fls).take k)).put x (.agg []) := by
  rw [List.take_add_one, hx, ← Maps.setOf_snoc]; rfl
theorem storeF (f : Nat) (a : Addr) (w : World) (m : Mode) : (store a (.float .f64 f) m).run Tryz.prog w = stored Tryz.prog w a (.float .f64 f) m := run_store _ _ _ _ _ rfl
set_option maxHeartbeats 4000000 in
set_option maxRecDepth 100000 in
theorem names_ok (fls : Fls) (a : Option Addr) (n c : Nat) (w : World) (h : FlsAt w fls a n) (hn : n ≤ 70368744177664) (hnc : n ≤ c) (hcl : ∀ p ∈ fls.list, cln p.1 = true) (hd : (nms fls).Nodup) :
    Calls Tryz.prog 43 #[.slice a n c] w fun e w' => e = .returned (.tuple #[]) ∧ Below w.heap.size w w' := by
  have hmm := mapHint
  have hsf := storeF
  have hsz := FlsAt.len fls a n h
  go_enter Tryz.func43, Tryz.ntmps43
  go_wp2_with fail
  go_loopw [12] (fun vi wr => ∃ k : Nat, k ≤ n ∧ vi = .int .i64 k ∧ wr.ownsMap Tryz.prog 9 unitElem w.heap.size k (Maps.setOf (H := Unit) (.agg []) ((nms fls).take k)) ∧ Below w.heap.size w wr ∧ w.heap.size + 1 ≤ wr.heap.size) (fun vi _ => n - (intOf vi).toNat)
  case atStart => exact ⟨0, Nat.zero_le _, rfl, World.ownsMap_made _ _ _ _, (Below.refl _ _).alloc (Nat.le_refl _) _, by simp⟩
  case round =>
    obtain ⟨k, hk, rfl, hown, hb, hs1⟩ := hrel
    by_cases hlt : k < n
    · obtain ⟨b, off, nm, v, cs, rfl, hg, hc0, hnm, hr, hv⟩ := FlsAt.get fls _ n h k hlt
      have hbw := World.block_lt_of_cell? w _ hc0
      have hbw : b < w.heap.size := hbw
      cases v with
      | mk kd bb ni f tx ty its fl =>
      unfold VlC at hv
      obtain ⟨ai, nI, ci, af, nf, cf, rfl, -⟩ := hv
      obtain ⟨r0, r1, r2, r3, r4, r5, r6, r7⟩ := hr.eight
      have d (j : Nat) (u : Value) (hj : w.cell? ⟨b, j, none⟩ = some u) : wr.cell? ⟨b, j, none⟩ = some u := (hb.cell (p := ⟨b, j, none⟩) hbw).trans hj
      have c0 := d _ _ hc0
      have c1 := d _ _ r0
      have c2 := d _ _ r1
      have c3 := d _ _ r2
      have c4 := d _ _ r3
      have c5 := d _ _ r4
      have c6 := d _ _ r5
      have c7 := d _ _ r6
      have c8 := d _ _ r7
      have hx : (nms fls)[k]? = some (.string nm.data.toList) := by simp [nms, hg]
      have hnew := nms_new hd hx
      have hsn := hide (nms_snoc hx)
      have hkey : keyOf Tryz.prog 9 (.string nm) = some (.string nm.data.toList) := Go.WideMaps.keyOf_string_mk Tryz.underlying9 hnm
      have U := hide (fun W => unclean_ok nm W (by unfold maxLen at hnm; omega) (hcl _ (List.mem_of_getElem? hg)))
      clear hc0 r0 r1 r2 r3 r4 r5 r6 r7 hr hx hg d hcl hd h hsz
      go_wp2_with fail
      refine (unhide U _).mono ?_
      rintro e w1 ⟨rfl, b1⟩
      clear U c0 c1 c2 c3 c4 c5 c6 c7 c8
      have hs2 : wr.heap.size + 1 ≤ w1.heap.size := by have := b1.size; simp at this; omega
      have x0 : w1.cell? ⟨wr.heap.size, 0, none⟩ = some (.string nm) := by
        rw [b1.cell (p := ⟨wr.heap.size, 0, none⟩) (by simp)]
        simp
      have x1 : ∀ o, (w1.alloc o).cell? ⟨wr.heap.size, 0, none⟩ = some (.string nm) := fun o => (((Below.refl w1.heap.size w1).alloc (Nat.le_refl _) o).cell (p := ⟨wr.heap.size, 0, none⟩) (show wr.heap.size < w1.heap.size by omega)).trans x0
      have hown1 := map_below (hown.alloc _) b1
      have hb1 : Below w.heap.size w w1 := (hb.alloc (by omega) _).trans (b1.mono (by simp; omega))
      have hsz1 : w.heap.size < w1.heap.size := by omega
      clear hown hb b1 hmm hsf
      go_wp2_with (first
        | (at_lookup; refine wpList_lookup_own_unit _ rfl _ _ 107 rfl 9 108 lawS Tryz.underlying107 (zeroU _) w.heap.size k _ rfl hown1 _ _ rfl hkey ?_; rw [hnew])
        | (at_mapUpdate; refine wpList_mapUpdate_own _ rfl _ _ _ 107 rfl 9 108 lawS Tryz.underlying107 (unitElem (H := Unit)) w.heap.size k _ rfl (hown1.alloc _) (by unfold maxLen; omega) _ _ _ rfl rfl hkey _ [] unitElem_mk ?_; intro w2 hown2 hgrow2)
        | go_in)
      have s2 := hgrow2.size
      simp at s2
      refine ⟨⟨k + 1, by omega, rfl, ?_, ?_, by omega⟩, ?_⟩
      · rw [unhide hsn]; exact hown2
      · exact (hb1.alloc (by omega) _).grown hgrow2 (by simp; omega) (fun j hj => by cases hj; exact Nat.le_refl _)
      · simp only [intOf]
        omega
    · go_wp2
      go_end0
      exact ⟨rfl, hb⟩
end Go.Proofs.YtechaplindbfoaaGreatDoor.jsn
namespace Go.Proofs.YtechaplindbfoaaGreatDoor.jsn
open Go.ChangeShapes Go.WideShapes Go.ChangeAt Go.RowKit
open mem vl Go.Maps
open ints (hide unhide)
set_option linter.unusedVariables false
def com (k : Nat) : List UInt8 := if k = 0 then [] else [44]
def partsL (tv : Nat → List UInt8) : Nat → List UInt8
  | 0 => []
  | k + 1 => partsL tv k ++ (com k ++ tv k)
def partsO (nm tv : Nat → List UInt8) : Nat → List UInt8
  | 0 => []
  | k + 1 => partsO nm tv k ++ (com k ++ (txt (nm k) ++ ([58] ++ tv k)))
theorem partsL_mono (tv : Nat → List UInt8) {k n : Nat} (h : k ≤ n) : (partsL tv k).length ≤ (partsL tv n).length := by
  induction n with
  | zero => obtain rfl : k = 0 := by omega
            exact Nat.le_refl _
  | succ n ih =>
    rcases Nat.lt_or_ge n k with h1 | h1
    · obtain rfl : k = n + 1 := by omega
      exact Nat.le_refl _
    · have := ih h1
      simp only [partsL, List.length_append]
      omega
theorem partsO_mono (nm tv : Nat → List UInt8) {k n : Nat} (h : k ≤ n) : (partsO nm tv k).length ≤ (partsO nm tv n).length := by
  induction n with
  | zero => obtain rfl : k = 0 := by omega
            exact Nat.le_refl _
  | succ n ih =>
    rcases Nat.lt_or_ge n k with h1 | h1
    · obtain rfl : k = n + 1 := by omega
      exact Nat.le_refl _
    · have := ih h1
      simp only [partsO, List.length_append]
      omega
theorem comma_ok (k : Nat) (cap : Array Value) (B : Nat) (I : List UInt8 → World → Prop) (G : World → World → Prop) (hP : Pen k cap B I G) (i : Nat) (hi : i ≤ 70368744177664) (l : List UInt8) (w : World) (hI : I l w) (hl : l.length + (com i).length ≤ 70368744177664) :
    Calls Tryz.prog 71 #[.int .i64 i, .func (.func k) #[] cap] w fun e w' => e = .returned (.tuple #[]) ∧ I (l ++ com i) w' ∧ G w w' := by
  have en := hP.enters
  unfold com at hl ⊢
  by_cases h0 : i = 0
  · subst h0
    go_enter Tryz.func71, Tryz.ntmps71
    go_wp2
    go_end0
    exact ⟨rfl, by simpa using hI, hP.gnew (hP.low _ _ hI) (Below.refl _ _)⟩
  · rw [if_neg h0] at hl ⊢
    have h1 : (0 : Int) < (i : Int) := by omega
    go_enter Tryz.func71, Tryz.ntmps71
    go_wp2_with fail
    refine (hP.lays l ⟨#[44]⟩ w hI hl).mono ?_
    rintro e w1 ⟨rfl, i1, b1⟩
    go_wp2
    go_end0
    exact ⟨rfl, i1, b1⟩
/-- what layValue does at a value of w0: it lays t -/
def CH (k : Nat) (cap : Array Value) (I : List UInt8 → World → Prop) (w0 : World) (v : Vl) (t : List UInt8) : Prop :=
  ∀ (cs : List Value) (w' : World) (l : List UInt8), VlC w0 v cs → Below w0.heap.size w0 w' → I l w' → l.length + t.length ≤ 70368744177664 →
    Calls Tryz.prog 24 #[.agg cs.toArray, .func (.func k) #[] cap] w' fun e w'' => e = .returned (.tuple #[]) ∧ I (l ++ t) w'' ∧ Fr w0.heap.size w' w''
set_option maxHeartbeats 4000000 in
set_option maxRecDepth 100000 in
theorem list_ok (k : Nat) (cap : Array Value) (I : List UInt8 → World → Prop) (w0 : World) (hP : Pen k cap w0.heap.size I (Fr w0.heap.size)) (its : Vls) (a : Option Addr) (n c : Nat) (h : VlsAt w0 its a n) (hnc : n ≤ c) (hn : n ≤ 70368744177664) (tv : Nat → List UInt8)
    (HC : ∀ i v, its.list[i]? = some v → CH k cap I w0 v (tv i)) (w : World) (l : List UInt8) (hb : Below w0.heap.size w0 w) (hI : I l w) (hl : l.length + 2 + (partsL tv n).length ≤ 70368744177664) :
    Calls Tryz.prog 42 #[.slice a n c, .func (.func k) #[] cap] w fun e w' => e = .returned (.tuple #[]) ∧ I (l ++ [91] ++ partsL tv n ++ [93]) w' ∧ Fr w0.heap.size w w' := by
  have en := hP.enters
  have hsf := storeF
  go_enter Tryz.func42, Tryz.ntmps42
  go_wp2_with fail
  refine (hP.lays l ⟨#[91]⟩ w hI (by have : (⟨#[91]⟩ : ByteArray).size = 1 := rfl; omega)).mono ?_
  rintro e w1 ⟨rfl, i1, b1⟩
  go_wp2_with fail
  go_loopw [10] (fun vi wr => ∃ m : Nat, m ≤ n ∧ vi = .int .i64 m ∧ Hid (I (l ++ [91] ++ partsL tv m) wr) ∧ Fr w0.heap.size w wr) (fun vi _ => n - (intOf vi).toNat)
  case atStart => exact ⟨0, Nat.zero_le _, rfl, hide (by simpa [partsL] using i1), b1⟩
  case round =>
    obtain ⟨m, hm, rfl, hi, hfr⟩ := hrel
    have hmn := partsL_mono tv hm
    by_cases hlt : m < n
    · obtain ⟨b, off, v, cs, rfl, hg, hr, hv⟩ := VlsAt.get its _ n h m hlt
      have hch := hide (HC m v hg)
      have hms := partsL_mono tv (show m + 1 ≤ n by omega)
      simp only [partsL, List.length_append] at hms
      have HV := hide hv
      cases v with
      | mk kd bb ni f tx ty it2 fl2 =>
      unfold VlC at hv
      obtain ⟨ai, nI, ci, af, nf, cf, rfl, -⟩ := hv
      obtain ⟨r0, r1, r2, r3, r4, r5, r6, r7⟩ := hr.eight
      have hbw : b < w0.heap.size := World.block_lt_of_cell? w0 _ r0
      have d (j : Nat) (u : Value) (hj : w0.cell? ⟨b, j, none⟩ = some u) : wr.cell? ⟨b, j, none⟩ = some u := ((hb.trans hfr.bel).cell (p := ⟨b, j, none⟩) hbw).trans hj
      have c1 := d _ _ r0
      have c2 := d _ _ r1
      have c3 := d _ _ r2
      have c4 := d _ _ r3
      have c5 := d _ _ r4
      have c6 := d _ _ r5
      have c7 := d _ _ r6
      have c8 := d _ _ r7
      have hlow := hP.low _ _ (unhide hi)
      clear r0 r1 r2 r3 r4 r5 r6 r7 hr hg d h HC
      go_wp2_with fail
      have hnew : Below wr.heap.size wr (wr.alloc (.cells #[.int .i64 kd, .bool bb, .int .i64 ni, .float .f64 f, .string tx, .string ty, .slice ai nI ci, .slice af nf cf] 29)) := (Below.refl _ _).alloc (Nat.le_refl _) _
      have i2 := hP.keep _ _ _ (unhide hi) hnew
      have f2 := hfr.trans (Fr.new hlow hnew)
      refine (comma_ok k cap _ I _ hP m (by omega) _ _ i2 (by simp only [List.length_append, List.length_cons, List.length_nil]; omega)).mono ?_
      rintro e w2 ⟨rfl, i3, f3⟩
      have hblk : w2.heap[wr.heap.size]? = some (.cells #[.int .i64 kd, .bool bb, .int .i64 ni, .float .f64 f, .string tx, .string ty, .slice ai nI ci, .slice af nf cf] 29 (0, 0)) := f3.val _ _ _ _ (.inl rfl) (heap_alloc_new _ _)
      have e0 := Lib.cell_of_heap hblk 0
      have e1 := Lib.cell_of_heap hblk 1
      have e2 := Lib.cell_of_heap hblk 2
      have e3 := Lib.cell_of_heap hblk 3
      have e4 := Lib.cell_of_heap hblk 4
      have e5 := Lib.cell_of_heap hblk 5
      have e6 := Lib.cell_of_heap hblk 6
      have e7 := Lib.cell_of_heap hblk 7
      simp at e0 e1 e2 e3 e4 e5 e6 e7
      have j3 := hide i3
      have f4 := f2.trans f3
      clear i2 i3 f2 f3 hnew hblk c1 c2 c3 c4 c5 c6 c7 c8 hi hfr
      go_wp2_with fail
      refine (unhide hch _ w2 _ (unhide HV) (hb.trans f4.bel) (unhide j3) (by simp only [List.length_append, List.length_cons, List.length_nil]; omega)).mono ?_
      rintro e w3 ⟨rfl, i5, f5⟩
      have j5 := hide i5
      have f6 := f4.trans f5
      clear i5 f5 f4 j3 e0 e1 e2 e3 e4 e5 e6 e7 hch HV
      go_wp2
      refine ⟨⟨m + 1, by omega, rfl, hide ?_, f6⟩, ?_⟩
      · have := unhide j5
        simpa only [partsL, List.append_assoc] using this
      · simp only [intOf]
        omega
    · obtain rfl : m = n := by omega
      go_wp2_with fail
      refine (hP.lays _ ⟨#[93]⟩ _ (unhide hi) (by have : (⟨#[93]⟩ : ByteArray).size = 1 := rfl; simp only [List.length_append, List.length_cons, List.length_nil]; omega)).mono ?_
      rintro e w3 ⟨rfl, i5, f5⟩
      go_wp2
      go_end0
      exact ⟨rfl, i5, hfr.trans f5⟩
end Go.Proofs.YtechaplindbfoaaGreatDoor.jsn
namespace Go.Proofs.YtechaplindbfoaaGreatDoor.jsn
open Go.ChangeShapes Go.WideShapes Go.ChangeAt Go.RowKit
open mem vl Go.Maps
open ints (hide unhide)
set_option linter.unusedVariables false
set_option maxHeartbeats 4000000 in
set_option maxRecDepth 100000 in
theorem obj_ok (k : Nat) (cap : Array Value) (I : List UInt8 → World → Prop) (w0 : World) (hP : Pen k cap w0.heap.size I (Fr w0.heap.size)) (fls : Fls) (a : Option Addr) (n c : Nat) (h : FlsAt w0 fls a n) (hnc : n ≤ c) (hn : n ≤ 70368744177664) (nm tv : Nat → List UInt8)
    (HC : ∀ i p, fls.list[i]? = some p → nm i = p.1.data.toList ∧ CH k cap I w0 p.2 (tv i)) (w : World) (l : List UInt8) (hb : Below w0.heap.size w0 w) (hI : I l w) (hl : l.length + 2 + (partsO nm tv n).length ≤ 70368744177664) :
    Calls Tryz.prog 44 #[.slice a n c, .func (.func k) #[] cap] w fun e w' => e = .returned (.tuple #[]) ∧ I (l ++ [123] ++ partsO nm tv n ++ [125]) w' ∧ Fr w0.heap.size w w' := by
  have en := hP.enters
  have hsf := storeF
  go_enter Tryz.func44, Tryz.ntmps44
  go_wp2_with fail
  refine (hP.lays l ⟨#[123]⟩ w hI (by have : (⟨#[123]⟩ : ByteArray).size = 1 := rfl; omega)).mono ?_
  rintro e w1 ⟨rfl, i1, b1⟩
  go_wp2_with fail
  go_loopw [10] (fun vi wr => ∃ m : Nat, m ≤ n ∧ vi = .int .i64 m ∧ Hid (I (l ++ [123] ++ partsO nm tv m) wr) ∧ Fr w0.heap.size w wr) (fun vi _ => n - (intOf vi).toNat)
  case atStart => exact ⟨0, Nat.zero_le _, rfl, hide (by simpa [partsO] using i1), b1⟩
  case round =>
    obtain ⟨m, hm, rfl, hi, hfr⟩ := hrel
    have hmn := partsO_mono nm tv hm
    by_cases hlt : m < n
    · obtain ⟨b, off, nmB, v, cs, rfl, hg, hc0, hnmB, hr, hv⟩ := FlsAt.get fls _ n h m hlt
      obtain ⟨hnm, hch⟩ := HC m _ hg
      have hnm := hide hnm
      have hch := hide hch
      have hms := partsO_mono nm tv (show m + 1 ≤ n by omega)
      simp only [partsO, List.length_append, List.length_cons, List.length_nil] at hms
      rw [unhide hnm] at hms
      have HV := hide hv
      cases v with
      | mk kd bb ni f tx ty it2 fl2 =>
      unfold VlC at hv
      obtain ⟨ai, nI, ci, af, nf, cf, rfl, -⟩ := hv
      obtain ⟨r0, r1, r2, r3, r4, r5, r6, r7⟩ := hr.eight
      have hbw : b < w0.heap.size := World.block_lt_of_cell? w0 _ r0
      have d (j : Nat) (u : Value) (hj : w0.cell? ⟨b, j, none⟩ = some u) : wr.cell? ⟨b, j, none⟩ = some u := ((hb.trans hfr.bel).cell (p := ⟨b, j, none⟩) hbw).trans hj
      have c0 := d _ _ hc0
      have c1 := d _ _ r0
      have c2 := d _ _ r1
      have c3 := d _ _ r2
      have c4 := d _ _ r3
      have c5 := d _ _ r4
      have c6 := d _ _ r5
      have c7 := d _ _ r6
      have c8 := d _ _ r7
      have hlow := hP.low _ _ (unhide hi)
      clear hc0 r0 r1 r2 r3 r4 r5 r6 r7 hr hg d h HC
      go_wp2_with fail
      have hnew : Below wr.heap.size wr (wr.alloc (.cells #[.string nmB, .int .i64 kd, .bool bb, .int .i64 ni, .float .f64 f, .string tx, .string ty, .slice ai nI ci, .slice af nf cf] 45)) := (Below.refl _ _).alloc (Nat.le_refl _) _
      have i2 := hP.keep _ _ _ (unhide hi) hnew
      have f2 := hfr.trans (Fr.new hlow hnew)
      refine (comma_ok k cap _ I _ hP m (by omega) _ _ i2 (by simp only [List.length_append, List.length_cons, List.length_nil]; omega)).mono ?_
      rintro e w2 ⟨rfl, i3, f3⟩
      have hblk : w2.heap[wr.heap.size]? = some (.cells #[.string nmB, .int .i64 kd, .bool bb, .int .i64 ni, .float .f64 f, .string tx, .string ty, .slice ai nI ci, .slice af nf cf] 45 (0, 0)) := f3.val _ _ _ _ (.inr rfl) (heap_alloc_new _ _)
      have e0 := Lib.cell_of_heap hblk 0
      simp at e0
      have j3 := hide i3
      have f4 := f2.trans f3
      have HB := hide hblk
      clear i2 i3 f2 f3 hnew hblk c0 c1 c2 c3 c4 c5 c6 c7 c8 hi hfr
      go_wp2_with fail
      refine (layText_any k cap _ I _ hP _ nmB _ (unhide j3) (by simp only [List.length_append, List.length_cons, List.length_nil]; omega)).mono ?_
      rintro e w3 ⟨rfl, i5, f5⟩
      have j5 := hide i5
      have f6 := f4.trans f5
      have HB3 := hide (f5.val _ _ _ _ (.inr rfl) (unhide HB))
      clear i5 f5 f4 j3 e0 HB
      go_wp2_with fail
      refine (hP.lays _ ⟨#[58]⟩ _ (unhide j5) (by have : (⟨#[58]⟩ : ByteArray).size = 1 := rfl; simp only [List.length_append, List.length_cons, List.length_nil]; omega)).mono ?_
      rintro e w4 ⟨rfl, i7, f7⟩
      have j7 := hide i7
      have f8 := f6.trans f7
      have hblk := f7.val _ _ _ _ (.inr rfl) (unhide HB3)
      have e1 := Lib.cell_of_heap hblk 1
      have e2 := Lib.cell_of_heap hblk 2
      have e3 := Lib.cell_of_heap hblk 3
      have e4 := Lib.cell_of_heap hblk 4
      have e5 := Lib.cell_of_heap hblk 5
      have e6 := Lib.cell_of_heap hblk 6
      have e7 := Lib.cell_of_heap hblk 7
      have e8 := Lib.cell_of_heap hblk 8
      simp at e1 e2 e3 e4 e5 e6 e7 e8
      clear i7 f7 f6 j5 HB3 hblk
      go_wp2_with fail
      refine (unhide hch _ w4 _ (unhide HV) (hb.trans f8.bel) (unhide j7) (by have : (⟨#[58]⟩ : ByteArray).data.toList.length = 1 := rfl; simp only [List.length_append, List.length_cons, List.length_nil]; omega)).mono ?_
      rintro e w5 ⟨rfl, i9, f9⟩
      have j9 := hide i9
      have f10 := f8.trans f9
      clear i9 f9 f8 j7 e1 e2 e3 e4 e5 e6 e7 e8 hch HV
      go_wp2
      refine ⟨⟨m + 1, by omega, rfl, hide ?_, f10⟩, ?_⟩
      · have := unhide j9
        rw [← unhide hnm] at this
        simpa only [partsO, List.append_assoc] using this
      · simp only [intOf]
        omega
    · obtain rfl : m = n := by omega
      go_wp2_with fail
      refine (hP.lays _ ⟨#[125]⟩ _ (unhide hi) (by have : (⟨#[125]⟩ : ByteArray).size = 1 := rfl; simp only [List.length_append, List.length_cons, List.length_nil]; omega)).mono ?_
      rintro e w3 ⟨rfl, i5, f5⟩
      go_wp2
      go_end0
      exact ⟨rfl, i5, hfr.trans f5⟩
end Go.Proofs.YtechaplindbfoaaGreatDoor.jsn
namespace Go.Proofs.YtechaplindbfoaaGreatDoor.jsn
open Go.ChangeShapes Go.WideShapes Go.ChangeAt Go.RowKit
open mem vl Go.Maps
open ints (hide unhide)
set_option linter.unusedVariables false
/-- the numbers that a value may have, and their texts -/
structure Nums where
  pI : Int → Prop
  wt : Int → List UInt8
  pF : Nat → Prop
  ft : Nat → List UInt8
/-- the calls that write numbers answer these texts -/
structure Nums.Ok (N : Nums) (w0 : World) : Prop where
  whole : ∀ n w, N.pI n → Below w0.heap.size w0 w → Calls Tryz.prog 39 #[.int .i64 n] w fun e w' => e = .returned (.string ⟨(N.wt n).toArray⟩) ∧ Below w.heap.size w w'
  float : ∀ f w, N.pF f → Below w0.heap.size w0 w → Calls Tryz.prog 70 #[.float .f64 f] w fun e w' => e = .returned (.string ⟨(N.ft f).toArray⟩) ∧ Below w.heap.size w w'
  some_ : ∀ f, N.pF f → (⟨(N.ft f).toArray⟩ : ByteArray) ≠ ⟨#[]⟩
def nmAt (fls : Fls) (i : Nat) : List UInt8 := (fls.list.getD i (⟨#[]⟩, .mk 0 false 0 0 ⟨#[]⟩ ⟨#[]⟩ .nil .nil)).1.data.toList
mutual
/-- the text of a value that is sound -/
def js (N : Nums) : Vl → List UInt8
  | .mk kd b n f tx ty its fls =>
    if kd = 0 then [110, 117, 108, 108]
    else if kd = 1 then (if b then [116, 114, 117, 101] else [102, 97, 108, 115, 101])
    else if kd = 2 then N.wt n
    else if kd = 3 then N.ft f
    else if kd = 4 then txt tx.data.toList
    else if kd = 5 then [91] ++ partsL (jsL N its) its.list.length ++ [93]
    else [123] ++ partsO (nmAt fls) (jsF N fls) fls.list.length ++ [125]
def jsL (N : Nums) : Vls → Nat → List UInt8
  | .nil, _ => []
  | .cons v r, i => if i = 0 then js N v else jsL N r (i - 1)
def jsF (N : Nums) : Fls → Nat → List UInt8
  | .nil, _ => []
  | .cons nm v r, i => if i = 0 then js N v else jsF N r (i - 1)
end
mutual
/-- a value that may be written -/
def okV (N : Nums) : Vl → Prop
  | .mk kd b n f tx ty its fls =>
    kd = 0 ∨ kd = 1 ∨ (kd = 2 ∧ N.pI n) ∨ (kd = 3 ∧ N.pF f) ∨ (kd = 4 ∧ cln tx = true) ∨ (kd = 5 ∧ okL N its) ∨ (kd = 6 ∧ (∀ p ∈ fls.list, cln p.1 = true) ∧ (nms fls).Nodup ∧ okF N fls)
def okL (N : Nums) : Vls → Prop
  | .nil => True
  | .cons v r => okV N v ∧ okL N r
def okF (N : Nums) : Fls → Prop
  | .nil => True
  | .cons nm v r => okV N v ∧ okF N r
end
theorem jsL_at (N : Nums) : ∀ (its : Vls) (i : Nat) (v : Vl), its.list[i]? = some v → jsL N its i = js N v
  | .nil, i, v, h => by simp [Vls.list] at h
  | .cons u r, i, v, h => by
    unfold jsL
    by_cases h0 : i = 0
    · subst h0
      simp [Vls.list] at h
      rw [if_pos rfl, h]
    · rw [if_neg h0]
      obtain ⟨j, rfl⟩ : ∃ j, i = j + 1 := ⟨i - 1, by omega⟩
      simp [Vls.list] at h
      exact jsL_at N r j v h
theorem jsF_at (N : Nums) : ∀ (fls : Fls) (i : Nat) (p : ByteArray × Vl), fls.list[i]? = some p → jsF N fls i = js N p.2
  | .nil, i, p, h => by simp [Fls.list] at h
  | .cons nm u r, i, p, h => by
    unfold jsF
    by_cases h0 : i = 0
    · subst h0
      simp [Fls.list] at h
      rw [if_pos rfl, ← h]
    · rw [if_neg h0]
      obtain ⟨j, rfl⟩ : ∃ j, i = j + 1 := ⟨i - 1, by omega⟩
      simp [Fls.list] at h
      exact jsF_at N r j p h
theorem okL_at (N : Nums) : ∀ (its : Vls), okL N its → ∀ v ∈ its.list, okV N v
  | .nil, h, v, hv => by simp [Vls.list] at hv
  | .cons u r, h, v, hv => by
    unfold okL at h
    simp only [Vls.list, List.mem_cons] at hv
    rcases hv with rfl | hv
    · exact h.1
    · exact okL_at N r h.2 v hv
theorem okF_at (N : Nums) : ∀ (fls : Fls), okF N fls → ∀ p ∈ fls.list, okV N p.2
  | .nil, h, v, hv => by simp [Fls.list] at hv
  | .cons nm u r, h, v, hv => by
    unfold okF at h
    simp only [Fls.list, List.mem_cons] at hv
    rcases hv with rfl | hv
    · exact h.1
    · exact okF_at N r h.2 v hv
theorem str_list (l : List UInt8) : (⟨l.toArray⟩ : ByteArray).data.toList = l := by simp
theorem str_size (l : List UInt8) : (⟨l.toArray⟩ : ByteArray).size = l.length := by show l.toArray.size = _; simp
theorem bool_ok (k : Nat) (cap : Array Value) (B : Nat) (I : List UInt8 → World → Prop) (G : World → World → Prop) (hP : Pen k cap B I G) (b : Bool) (l : List UInt8) (w : World) (hI : I l w) (hl : l.length + (if b then [116, 114, 117, 101] else [102, 97, 108, 115, 101] : List UInt8).length ≤ 70368744177664) :
    Calls Tryz.prog 38 #[.bool b, .func (.func k) #[] cap] w fun e w' => e = .returned (.tuple #[]) ∧ I (l ++ (if b then [116, 114, 117, 101] else [102, 97, 108, 115, 101])) w' ∧ G w w' := by
  have en := hP.enters
  cases b
  · go_enter Tryz.func38, Tryz.ntmps38
    go_wp2_with fail
    refine (hP.lays l ⟨#[102, 97, 108, 115, 101]⟩ w hI hl).mono ?_
    rintro e w1 ⟨rfl, i1, b1⟩
    go_wp2
    go_end0
    exact ⟨rfl, i1, b1⟩
  · go_enter Tryz.func38, Tryz.ntmps38
    go_wp2_with fail
    refine (hP.lays l ⟨#[116, 114, 117, 101]⟩ w hI hl).mono ?_
    rintro e w1 ⟨rfl, i1, b1⟩
    go_wp2
    go_end0
    exact ⟨rfl, i1, b1⟩
theorem toList_nil (S : ByteArray) (h : S.toList = []) : S = ⟨#[]⟩ := by
  rw [ByteArray.toList_eq] at h
  cases S with
  | mk d => simp at h; rw [h]
theorem float_ok (N : Nums) (w0 : World) (hN : N.Ok w0) (k : Nat) (cap : Array Value) (B : Nat) (I : List UInt8 → World → Prop) (G : World → World → Prop) (hP : Pen k cap B I G) (f : Nat) (hf : N.pF f) (l : List UInt8) (w : World) (hb0 : Below w0.heap.size w0 w) (hI : I l w) (hl : l.length + (N.ft f).length ≤ 70368744177664) :
    Calls Tryz.prog 40 #[.float .f64 f, .func (.func k) #[] cap] w fun e w' => e = .returned (.tuple #[]) ∧ I (l ++ N.ft f) w' ∧ G w w' := by
  have en := hP.enters
  have F := hide (hN.float f w hf hb0)
  have hne := hN.some_ f hf
  have hs := str_size (N.ft f)
  obtain ⟨S, hS⟩ : ∃ S, S = (⟨(N.ft f).toArray⟩ : ByteArray) := ⟨_, rfl⟩
  have hsl := hide (show S.data.toList = N.ft f by rw [hS])
  rw [← hS] at F hne hs
  clear hS
  have hne2 : S.toList.isEmpty = false := by
    cases h : S.toList with
    | nil => exact absurd (toList_nil S h) hne
    | cons => rfl
  have hlow := hP.low _ _ hI
  go_enter Tryz.func40, Tryz.ntmps40
  go_wp2_with fail
  refine (unhide F).mono ?_
  rintro e w1 ⟨rfl, b1⟩
  have i1 := hide (hP.keep _ _ _ hI b1)
  clear F
  go_wp2_with fail
  refine (hP.lays l S _ (unhide i1) (by omega)).mono ?_
  rintro e w2 ⟨rfl, i2, b2⟩
  go_wp2
  go_end0
  rw [unhide hsl] at i2
  exact ⟨rfl, i2, hP.gtrans (hP.gnew hlow b1) b2⟩
set_option maxHeartbeats 8000000 in
set_option maxRecDepth 100000 in
theorem value_ok (N : Nums) (k : Nat) (cap : Array Value) (I : List UInt8 → World → Prop) (w0 : World) (hN : N.Ok w0) (hP : Pen k cap w0.heap.size I (Fr w0.heap.size)) : ∀ v : Vl, okV N v → CH k cap I w0 v (js N v) := by
  refine Vl.all ?_
  intro kd b n f tx ty its fls ihI ihF hok cs w l hv hb hI hl
  unfold VlC at hv
  obtain ⟨ai, ni, ci, af, nf, cf, rfl, hvI, hvF, hni, hnf, -, -, -, -, htx, -, hci, hcf⟩ := hv
  have en := hP.enters
  have hsf := storeF
  have hlow := hP.low _ _ hI
  have hnew : Below w.heap.size w (w.alloc (.cells #[.int .i64 kd, .bool b, .int .i64 n, .float .f64 f, .string tx, .string ty, .slice ai ni ci, .slice af nf cf] 29)) := (Below.refl _ _).alloc (Nat.le_refl _) _
  have hI2 := hide (hP.keep _ _ _ hI hnew)
  have f2 := Fr.new hlow hnew
  clear hnew
  unfold okV at hok
  obtain ⟨T, hT⟩ : ∃ T, T = js N (.mk kd b n f tx ty its fls) := ⟨_, rfl⟩
  rw [← hT] at hl ⊢
  unfold js at hT
  rcases hok with rfl | rfl | ⟨rfl, hp⟩ | ⟨rfl, hp⟩ | ⟨rfl, hc⟩ | ⟨rfl, hL⟩ | ⟨rfl, hc, hd, hF⟩
  · -- null
    have hT1 : T = [110, 117, 108, 108] := hT
    have HT := hide hT1
    clear hT hT1
    have hl' : l.length + 4 ≤ 70368744177664 := by have := congrArg List.length (unhide HT); simp at this; omega
    go_enter Tryz.func24, Tryz.ntmps24
    go_wp2_with fail
    refine (hP.lays l ⟨#[110, 117, 108, 108]⟩ _ (unhide hI2) hl').mono ?_
    rintro e w1 ⟨rfl, i1, f1⟩
    go_wp2
    go_end0
    exact ⟨rfl, by rw [unhide HT]; exact i1, f2.trans f1⟩
  · -- a bool
    have hT1 : T = (if b then [116, 114, 117, 101] else [102, 97, 108, 115, 101]) := hT
    have HT := hide hT1
    clear hT hT1
    have hl' := hl
    rw [unhide HT] at hl'
    have Q := hide (bool_ok k cap _ I _ hP b l _ (unhide hI2) hl')
    rw [← unhide HT] at Q
    clear hl'
    go_enter Tryz.func24, Tryz.ntmps24
    go_wp2_with fail
    refine (unhide Q).mono ?_
    rintro e w1 ⟨rfl, i1, f1⟩
    go_wp2
    go_end0
    exact ⟨rfl, i1, f2.trans f1⟩
  · -- a whole number
    have W := hide (fun w' hb' => hN.whole n w' hp hb')
    have hs := str_size (N.wt n)
    have hT1 : T = N.wt n := hT
    have HT := hide hT1
    clear hT hT1
    have hl' : l.length + (N.wt n).length ≤ 70368744177664 := by rw [← unhide HT]; exact hl
    go_enter Tryz.func24, Tryz.ntmps24
    go_wp2_with fail
    refine (unhide W _ (hb.trans f2.bel)).mono ?_
    rintro e w1 ⟨rfl, b1⟩
    clear W
    have i1 := hide (hP.keep _ _ _ (unhide hI2) b1)
    go_wp2_with fail
    refine (hP.lays l ⟨(N.wt n).toArray⟩ _ (unhide i1) (by omega)).mono ?_
    rintro e w2 ⟨rfl, i2, f3⟩
    go_wp2
    go_end0
    exact ⟨rfl, by rw [unhide HT]; exact i2, (f2.trans (Fr.new (hP.low _ _ (unhide hI2)) b1)).trans f3⟩
  · -- a float
    have hT1 : T = N.ft f := hT
    have HT := hide hT1
    clear hT hT1
    have hl' : l.length + (N.ft f).length ≤ 70368744177664 := by rw [← unhide HT]; exact hl
    go_enter Tryz.func24, Tryz.ntmps24
    go_wp2_with fail
    refine (float_ok N w0 hN k cap _ I _ hP f hp l _ (hb.trans f2.bel) (unhide hI2) hl').mono ?_
    rintro e w1 ⟨rfl, i1, f1⟩
    go_wp2
    go_end0
    exact ⟨rfl, by rw [unhide HT]; exact i1, f2.trans f1⟩
  · -- a text
    have hT1 : T = txt tx.data.toList := hT
    have HT := hide hT1
    clear hT hT1
    have hl' : l.length + (txt tx.data.toList).length ≤ 70368744177664 := by rw [← unhide HT]; exact hl
    have U := hide (fun W => unclean_ok tx W (by unfold maxLen at htx; omega) hc)
    go_enter Tryz.func24, Tryz.ntmps24
    go_wp2_with fail
    refine (unhide U _).mono ?_
    rintro e w1 ⟨rfl, b1⟩
    clear U
    have i1 := hide (hP.keep _ _ _ (unhide hI2) b1)
    have x4 : w1.cell? ⟨w.heap.size, 4, none⟩ = some (.string tx) := by
      rw [b1.cell (p := ⟨w.heap.size, 4, none⟩) (by simp)]
      simp
    go_wp2_with fail
    refine (layText_any k cap _ I _ hP l tx _ (unhide i1) hl').mono ?_
    rintro e w2 ⟨rfl, i2, f3⟩
    go_wp2
    go_end0
    exact ⟨rfl, by rw [unhide HT]; exact i2, (f2.trans (Fr.new (hP.low _ _ (unhide hI2)) b1)).trans f3⟩
  · -- a list
    have hlen := VlsAt.len its _ _ hvI
    have hT1 : T = [91] ++ partsL (jsL N its) its.list.length ++ [93] := hT
    have HT := hide hT1
    clear hT hT1
    have hl' : l.length + ([91] ++ partsL (jsL N its) its.list.length ++ [93]).length ≤ 70368744177664 := by rw [← unhide HT]; exact hl
    rw [hlen] at hl'
    simp only [List.length_append, List.length_cons, List.length_nil] at hl'
    have hn2 : ni ≤ 70368744177664 := by
      have : ni ≤ (partsL (jsL N its) ni).length + 1 := by
        have h1 : ∀ m, m ≤ (partsL (jsL N its) m).length + 1 := by
          intro m
          induction m with
          | zero => omega
          | succ m ih =>
            simp only [partsL, List.length_append]
            unfold com
            split
            · omega
            · simp only [List.length_cons, List.length_nil]; omega
        exact h1 ni
      omega
    have Q := hide (list_ok k cap I w0 hP its ai ni ci hvI hni hn2 (jsL N its) (fun i v hg => by rw [jsL_at N its i v hg]; exact ihI v (List.mem_of_getElem? hg) (okL_at N its hL v (List.mem_of_getElem? hg))) _ l (hb.trans f2.bel) (unhide hI2) (by omega))
    clear ihI ihF hL
    go_enter Tryz.func24, Tryz.ntmps24
    go_wp2_with fail
    refine (unhide Q).mono ?_
    rintro e w1 ⟨rfl, i1, f1⟩
    go_wp2
    go_end0
    refine ⟨rfl, ?_, f2.trans f1⟩
    rw [unhide HT, hlen]
    simpa only [List.append_assoc] using i1
  · -- an object
    have hlen := FlsAt.len fls _ _ hvF
    have hT1 : T = [123] ++ partsO (nmAt fls) (jsF N fls) fls.list.length ++ [125] := hT
    have HT := hide hT1
    clear hT hT1
    have hl' : l.length + ([123] ++ partsO (nmAt fls) (jsF N fls) fls.list.length ++ [125]).length ≤ 70368744177664 := by rw [← unhide HT]; exact hl
    rw [hlen] at hl'
    simp only [List.length_append, List.length_cons, List.length_nil] at hl'
    have hn2 : nf ≤ 70368744177664 := by
      have : nf ≤ (partsO (nmAt fls) (jsF N fls) nf).length := by
        have h1 : ∀ m, m ≤ (partsO (nmAt fls) (jsF N fls) m).length := by
          intro m
          induction m with
          | zero => omega
          | succ m ih =>
            simp only [partsO, List.length_append, List.length_cons, List.length_nil]
            omega
        exact h1 nf
      omega
    have M := hide (fun W hW => names_ok fls af nf cf W (FlsAt.below hW fls _ _ hvF) hn2 hnf hc hd)
    have Q := hide (fun w' l hb hI hl => obj_ok k cap I w0 hP fls af nf cf hvF hnf hn2 (nmAt fls) (jsF N fls) (fun i p hg => ⟨by simp [nmAt, List.getD, hg], by rw [jsF_at N fls i p hg]; exact ihF p (List.mem_of_getElem? hg) (okF_at N fls hF p (List.mem_of_getElem? hg))⟩) w' l hb hI hl)
    clear ihI ihF hF hc hd
    go_enter Tryz.func24, Tryz.ntmps24
    go_wp2_with fail
    refine (unhide M _ (hb.trans f2.bel)).mono ?_
    rintro e w1 ⟨rfl, b1⟩
    clear M
    have i1 := hP.keep _ _ _ (unhide hI2) b1
    have f3 := f2.trans (Fr.new (hP.low _ _ (unhide hI2)) b1)
    have q2 := hide (unhide Q w1 l (hb.trans f3.bel) i1 (by omega))
    clear Q
    have x7 : w1.cell? ⟨w.heap.size, 7, none⟩ = some (.slice af nf cf) := by
      rw [b1.cell (p := ⟨w.heap.size, 7, none⟩) (by simp)]
      simp
    go_wp2_with fail
    refine (unhide q2).mono ?_
    rintro e w2 ⟨rfl, i2, f4⟩
    go_wp2
    go_end0
    refine ⟨rfl, ?_, f3.trans f4⟩
    rw [unhide HT, hlen]
    simpa only [List.append_assoc] using i2
end Go.Proofs.YtechaplindbfoaaGreatDoor.jsn
