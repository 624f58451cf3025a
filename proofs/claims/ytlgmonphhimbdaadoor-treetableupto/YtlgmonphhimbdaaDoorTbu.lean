import Derived.Test.YtlgmonphhimbdaaDoorTbt
import Derived.Deep.Matrix
import Derived.Deep.Strs
namespace Go.Proofs.YtlgmonphhimbdaaDoor.tab
open Go.ChangeShapes Go.WideShapes Go.ChangeAt Go.RowKit
set_option linter.unusedVariables false
theorem list3 {α : Type} {l : List α} (h : l.length = 3) : ∃ x y z, l = [x, y, z] := by
  match l, h with
  | [x, y, z], _ => exact ⟨x, y, z, rfl⟩
theorem blk_pos {H : Type} (d : DataW H) : 1 ≤ Rows.uptoBulk d := by
  cases d with
  | lit l => cases l <;> simp [Rows.uptoBulk]
  | _ => simp [Rows.uptoBulk]
theorem blk_len {H : Type} : ∀ (l : List (DataW H)), l.length ≤ Rows.uptoBulkAll l
  | [] => by simp [Rows.uptoBulkAll]
  | x :: r => by
    have := blk_len r
    have := blk_pos x
    simp only [Rows.uptoBulkAll, List.length_cons]
    omega
theorem blk_slice {H : Type} (e s : List (DataW H)) : e.length + 1 ≤ Rows.uptoBulk (.slice e s) := by
  have := blk_len e
  simp only [Rows.uptoBulk]
  omega
set_option maxRecDepth 4000 in
theorem scr_of {H : Type} {enc : TypeId × Value → H} {w : World} {base : Nat} {held : Bool} {fuel : Nat} {a0 : Option Addr} {len0 cap0 : Nat} {d : DataW H} {p : List MemPlace}
    (h : DataW.trod enc Tryd.prog w base (fun _ => true) held fuel 22 [.slice a0 len0 cap0] = some (d, p)) (hd1 : Rows.uptoBulk d ≤ 1048576) :
    Scr w a0 len0 ∧ len0 ≤ 1048575 := by
  have ce : Tryd.prog.cellsOf 31 = 3 := by kernel_rfl
  have ce0 : Tryd.prog.cellsOf 3 = 1 := by kernel_rfl
  rcases Go.Deep.open_slice Tryd.underlying22 h with ⟨hcs, _⟩ | ⟨a, len, cap, m, n, D, Pl, hcs, hb, hl, hm, hmm, hx, hcell⟩
  · simp at hcs
    obtain ⟨rfl, rfl, rfl⟩ := hcs
    exact ⟨.inl rfl, by decide⟩
  · simp at hcs
    obtain ⟨rfl, rfl, rfl⟩ := hcs
    simp only [if_true] at hmm
    subst hmm
    simp only [Prod.mk.injEq] at hx
    obtain ⟨hd, _⟩ := hx
    refine ⟨?_, ?_⟩
    · by_cases h0 : len0 = 0
      · exact .inl h0
      · right
        rw [ce] at hcell
        have spot0 : ∃ b off, a = ⟨b, off, none⟩ ∧ b < w.heap.size := by
          obtain ⟨cs', h1, h2⟩ := hcell 0 (by omega)
          obtain ⟨_, hlen, hc⟩ := World.cells?_some h1
          obtain ⟨v, hv⟩ : ∃ v, w.cell? (a.add (0 * 3)) = some v := by
            have := hc 0 (by omega)
            obtain ⟨v0, v1, v2, rfl⟩ := list3 hlen
            exact ⟨v0, by simpa [Addr.add] using this⟩
          obtain ⟨b, off, spot⟩ := a
          have hspot : spot = none := by simpa [Addr.add] using World.cell?_spot hv
          subst hspot
          exact ⟨b, off, rfl, World.block_lt_of_cell? w _ hv⟩
        obtain ⟨b, off, rfl, hbw⟩ := spot0
        refine ⟨b, off, rfl, hbw, fun i hi => ?_⟩
        obtain ⟨cs', h1, h2⟩ := hcell i (by omega)
        obtain ⟨_, hlen, hc⟩ := World.cells?_some h1
        obtain ⟨y0, y1, y2, n', _, _, t0, t1, t2⟩ := Go.Deep.trod_struct3 Tryd.underlying31 h2
        obtain ⟨v0, v1, v2, rfl⟩ := list3 hlen
        have e0 := hc 0 (by omega)
        have e1 := hc 1 (by omega)
        have e2 := hc 2 (by omega)
        rw [Go.Deep.add_add, Addr.add_lit] at e0 e1 e2
        simp only [ce0, List.drop_zero, List.take_succ_cons, List.take_zero] at t0
        simp only [ce0, List.drop_succ_cons, List.drop_zero, List.take_succ_cons, List.take_zero] at t1
        simp only [ce0, List.drop_succ_cons, List.drop_zero, List.take_succ_cons, List.take_zero] at t2
        simp only [List.getElem?_cons_zero, List.getElem?_cons_succ] at e0 e1 e2
        obtain ⟨kd, hk, _⟩ := DataW.trod_int Tryd.underlying3 t0
        obtain ⟨K, hK, _, hw⟩ := DataW.trod_int Tryd.underlying3 t1
        obtain ⟨V, hV, _⟩ := DataW.trod_int Tryd.underlying3 t2
        simp only [List.cons.injEq, and_true] at hk hK hV
        subst hk hK hV
        exact ⟨kd, K, V, by simpa [Lit.wf, IntKind.min, IntKind.max, IntKind.signed, IntKind.bits] using hw, by simpa using e0, by rw [Nat.add_assoc]; exact e1, by rw [Nat.add_assoc]; exact e2⟩
    · rw [hd] at hd1
      have := Nat.le_trans (blk_slice _ _) hd1
      simp at this
      omega
end Go.Proofs.YtlgmonphhimbdaaDoor.tab
