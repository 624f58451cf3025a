import Derived.Test.YtfjoaifcfmcnfabGreatDoorJoT
import Derived.Lib.AppendStr
import Derived.Lib.Builder
import Derived.Shelf.Abstract
namespace Go.Proofs.YtfjoaifcfmcnfabGreatDoor.jsn
open Go.ChangeShapes Go.WideShapes Go.ChangeAt Go.RowKit
open mem
open ints (hide unhide)
set_option linter.unusedVariables false

theorem cells_app' (l : List UInt8) (s : ByteArray) : Lib.byteCells l ++ Lib.strCells s = Lib.byteCells (l ++ s.data.toList) := by simp [Lib.byteCells, Lib.strCells]
/-- what the pens of Write and Size leave: blocks below B, and every block of values and members -/
structure Fr (B : Nat) (w w' : World) : Prop where
  bel : Below B w w'
  val : ∀ (j : Nat) (cs : Array Value) (T : TypeId) (fr : Nat × Nat), (T = 29 ∨ T = 37) → w.heap[j]? = some (Obj.cells cs T fr) → w'.heap[j]? = some (Obj.cells cs T fr)
theorem Fr.trans {B : Nat} {a b c : World} (h : Fr B a b) (k : Fr B b c) : Fr B a c := ⟨h.bel.trans k.bel, fun j cs T fr hT hj => k.val j cs T fr hT (h.val j cs T fr hT hj)⟩
theorem Fr.new {B : Nat} {w w' : World} (hB : B ≤ w.heap.size) (h : Below w.heap.size w w') : Fr B w w' :=
  ⟨h.mono hB, fun j cs T fr _ hj => (h.block j (Array.getElem?_eq_some_iff.1 hj).1).trans hj⟩
theorem Fr.refl (B : Nat) (w : World) : Fr B w w := ⟨Below.refl _ _, fun _ _ _ _ _ h => h⟩
/-- what Write's pen has laid: the slice in its variable, of its own; the error's variable beside it -/
structure wI (B bt be : Nat) (l : List UInt8) (w : World) : Prop where
  low : B ≤ bt ∧ B ≤ be ∧ be < w.heap.size
  err : w.heap[be]? = some (.cells #[.int .i64 0] 31 (0, 0))
  own : ∃ v, w.heap[bt]? = some (.cells #[v] 30 (0, 0)) ∧ w.ownsRow B 5 1 v l.length (Lib.byteCells l)
theorem lt_heap {w : World} {b : Nat} {o : Obj} (h : w.heap[b]? = some o) : b < w.heap.size := (Array.getElem?_eq_some_iff.1 h).1
theorem pen_w (B bt be : Nat) : Pen 20 #[.pointer (some ⟨bt, 0, none⟩)] B (wI B bt be) (Fr B) where
  gtrans := Fr.trans
  gnew := Fr.new
  gbel := Fr.bel
  low := fun l w h => by have := h.low; omega
  keep := fun l w w' h hb => by
    obtain ⟨⟨h1, h2, h3⟩, h4, v, h5, h6⟩ := h
    exact ⟨⟨h1, h2, Nat.lt_of_lt_of_le h3 hb.size⟩, (hb.block be h3).trans h4, v, (hb.block bt (lt_heap h5)).trans h5, own_below h6 hb⟩
  enters := enters_of Tryz.func20 (by kernel_rfl) rfl
  lays := by
    intro l s w h hl
    show Calls Tryz.prog 20 #[.string s, .pointer (some ⟨bt, 0, none⟩)] w _
    obtain ⟨⟨h1, h2, h3⟩, h4, v, h5, h6⟩ := h
    obtain ⟨i0, hi, hz0, hz1, hz2⟩ := info_parts info8
    have c1 : w.cell? ⟨bt, 0, none⟩ = some v := by rw [Lib.cell_of_heap h5]; rfl
    go_enter Tryz.func20, Tryz.ntmps20
    go_wp2_with (at_builtin; refine Lib.wpList_append_own_string _ rfl _ _ 30 9 rfl B 5 i0 Tryz.underlying30 Tryz.underlying9 hi hz0 hz1 hz2 _ _ _ rfl h6 s rfl ?c3 ?c4 ?c5 ?_)
    case c3 => unfold maxLen; omega
    case c4 => omega
    case c5 => omega
    intro v' w2 hown' hgrow _
    have n1 : v.ownBlock ≠ some bt := Lib.ownBlock_ne h6 h5 (by decide)
    have n2 : v.ownBlock ≠ some be := Lib.ownBlock_ne h6 h4 (by decide)
    have k5 : w2.heap[bt]? = some (.cells #[v] 30 (0, 0)) := by rw [hgrow.block bt (lt_heap h5) (fun e => n1 e.symm)]; exact h5
    have k4 : w2.heap[be]? = some (.cells #[.int .i64 0] 31 (0, 0)) := by rw [hgrow.block be h3 (fun e => n2 e.symm)]; exact h4
    have d1 : w2.cell? ⟨bt, 0, none⟩ = some v := by rw [Lib.cell_of_heap k5]; rfl
    have f1 : w2.frozen? ⟨bt, 0, none⟩ = false := Lib.frozen_of_heap k5 0
    have hne : bt ≠ be := by
      intro e
      rw [e, k4] at k5
      simp at k5
    obtain ⟨ao, n', cap', rfl⟩ : ∃ ao n' cap, v' = .slice ao n' cap := by
      rcases hown'.2 with ⟨hv, _⟩ | ⟨g, cap, cur, hv, _⟩
      · exact ⟨_, _, _, hv⟩
      · exact ⟨_, _, _, hv⟩
    have HG := hide hgrow
    have H6 := hide h6
    have HO := hide hown'
    have K4 := hide k4
    have K5 := hide k5
    clear hgrow h6 hown' k4 k5 h4 h5 n1 n2 c1
    go_wp2
    go_end0
    have hgrow := unhide HG
    have h6 := unhide H6
    have hown' := unhide HO
    have k4 := unhide K4
    have k5 := unhide K5
    have hb : Below B w (w2.setCell ⟨bt, 0, none⟩ (.slice ao n' cap')) := ((Below.refl _ w).grown hgrow (by omega) (fun k hk => (h6.lt k hk).1)).setCell (p := ⟨bt, 0, none⟩) h1 _
    have m1 : (Value.slice ao n' cap').ownBlock ≠ some bt := Lib.ownBlock_ne hown' k5 (by decide)
    refine ⟨rfl, ⟨⟨h1, h2, Nat.lt_of_lt_of_le h3 hb.size⟩, ?_, .slice ao n' cap', ?_, ?_⟩, hb, ?_⟩
    · rw [Below.heap_setCell _ _ _ _ (fun e => hne e.symm)]; exact k4
    · simp [World.setCell, Array.getElem?_modify, k5]
    · rw [← cells_app', List.length_append]
      exact hown'.kept (row := some bt) ⟨rfl, rfl, rfl, by simp [World.setCell], fun k _ hk => Below.heap_setCell _ _ _ _ (fun e => hk (by simp [e]))⟩ (Or.inr m1)
    · intro j cs T fr hT hj
      have hjl := lt_heap hj
      have j1 : v.ownBlock ≠ some j := by
        rcases hT with rfl | rfl
        · exact Lib.ownBlock_ne h6 hj (by decide)
        · exact Lib.ownBlock_ne h6 hj (by decide)
      have j2 : w2.heap[j]? = some (.cells cs T fr) := by rw [hgrow.block j hjl (fun e => j1 e.symm)]; exact hj
      have j3 : j ≠ bt := by
        intro e
        rcases hT with rfl | rfl
        · rw [e, k5] at j2
          simp at j2
        · rw [e, k5] at j2
          simp at j2
      rw [Below.heap_setCell _ _ _ _ j3]; exact j2
/-- what Size's pen has counted -/
structure sI (B bt be : Nat) (l : List UInt8) (w : World) : Prop where
  low : B ≤ bt ∧ B ≤ be
  err : w.heap[be]? = some (.cells #[.int .i64 0] 31 (0, 0))
  num : w.heap[bt]? = some (.cells #[.int .i64 l.length] 3 (0, 0))
  few : l.length ≤ 70368744177664
theorem pen_s (B bt be : Nat) : Pen 29 #[.pointer (some ⟨bt, 0, none⟩)] B (sI B bt be) (Fr B) where
  gtrans := Fr.trans
  gnew := Fr.new
  gbel := Fr.bel
  low := fun l w h => by have := h.low; have := lt_heap h.num; omega
  keep := fun l w w' h hb => by
    obtain ⟨⟨h1, h2⟩, h4, h5, h6⟩ := h
    exact ⟨⟨h1, h2⟩, (hb.block be (lt_heap h4)).trans h4, (hb.block bt (lt_heap h5)).trans h5, h6⟩
  enters := enters_of Tryz.func29 (by kernel_rfl) rfl
  lays := by
    intro l s w h hl
    show Calls Tryz.prog 29 #[.string s, .pointer (some ⟨bt, 0, none⟩)] w _
    obtain ⟨⟨h1, h2⟩, h4, h5, h6⟩ := h
    have hne : bt ≠ be := by
      intro e
      rw [e, h4] at h5
      simp at h5
    have c1 : w.cell? ⟨bt, 0, none⟩ = some (.int .i64 l.length) := by rw [Lib.cell_of_heap h5]; rfl
    have f1 : w.frozen? ⟨bt, 0, none⟩ = false := Lib.frozen_of_heap h5 0
    go_enter Tryz.func29, Tryz.ntmps29
    go_wp2
    go_end0
    have hlen : (l ++ s.data.toList).length = l.length + s.size := by rw [List.length_append, Array.length_toList]; rfl
    refine ⟨rfl, ⟨⟨h1, h2⟩, ?_, ?_, by omega⟩, (Below.refl _ w).setCell (p := ⟨bt, 0, none⟩) h1 _, ?_⟩
    · rw [Below.heap_setCell _ _ _ _ (fun e => hne e.symm)]; exact h4
    · rw [hlen]; simp [World.setCell, Array.getElem?_modify, h5]
    · intro j cs T fr hT hj
      have j3 : j ≠ bt := by
        intro e
        rcases hT with rfl | rfl
        · rw [e, h5] at hj
          simp at hj
        · rw [e, h5] at hj
          simp at hj
      rw [Below.heap_setCell _ _ _ _ j3]; exact hj
end Go.Proofs.YtfjoaifcfmcnfabGreatDoor.jsn
