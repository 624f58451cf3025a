import Derived.Test.YtechaplindbfoaaGreatDoorJsi34
import Derived.Test.YtechaplindbfoaaGreatDoorJpa13
import Derived.Deep.Strs
import Derived.Deep.DeepHandedRow
namespace Go.Proofs.YtechaplindbfoaaGreatDoor.jsn
open Go.ChangeShapes Go.WideShapes Go.ChangeAt Go.RowKit
open mem
open vl hiding hide unhide Hid
open ints (hide unhide)
set_option linter.unusedVariables false
set_option linter.unusedSimpArgs false
set_option linter.unnecessarySimpa false
section
variable {H : Type} {enc : TypeId × Value → H} {w : World} {base : Nat} {held : Bool}
theorem vals_bulk {fuel : Nat} {a0 : Option Addr} {len0 cap0 : Nat} {d : DataW H} {p : List MemPlace} (h : DataW.trod enc Tryz.prog w base (fun _ => true) held fuel 22 [.slice a0 len0 cap0] = some (d, p)) (hN : Rows.uptoBulk d ≤ 1048576) :
    ∃ l, VlsAt w l a0 len0 ∧ len0 ≤ cap0 ∧ len0 ≤ 1048576 ∧ FlI l ∧ wtI l ≤ 1048576 := by
  rcases DataW.trod_slice Tryz.underlying22 h with ⟨hc, _⟩ | ⟨a, len, cap, elems, rest, k, hk, hc, hxs, _, hlc, hcm, hel, hcell, _, _⟩
  · simp at hc
    obtain ⟨rfl, rfl, rfl⟩ := hc
    exact ⟨.nil, by unfold VlsAt; rfl, Nat.le_refl _, Nat.zero_le _, by unfold FlI; trivial, Nat.zero_le _⟩
  · simp at hc
    obtain ⟨rfl, rfl, rfl⟩ := hc
    have hd : d = .slice (elems.map (·.1)) (rest.map (·.1)) := congrArg Prod.fst hxs
    subst hd
    have hbl := jbk_slice (elems.map (·.1)) (rest.map (·.1))
    have hbe := jbk_elems (elems.map (·.1)) (rest.map (·.1))
    rw [List.length_map, List.length_map] at hbl
    have key : ∀ i (hi : i < len0), ∃ cs v, w.cells? base (a.add (i * 8)) 8 = some cs ∧ VlC w v cs ∧ FlV v ∧ wtV v ≤ Rows.uptoBulk (elems[i]'(by omega)).1 := by
      intro i hi
      have h1 := hcell i hi
      rw [cellsV, List.getElem?_eq_getElem (show i < elems.length by omega), Option.bind_eq_some_iff] at h1
      obtain ⟨cs, h2, h3⟩ := h1
      have hbm := jbk_mem (List.mem_map.2 ⟨_, List.getElem_mem (show i < elems.length by omega), rfl⟩ : (elems[i]'(by omega)).1 ∈ elems.map (·.1))
      obtain ⟨v, hv, hsv, hht⟩ := jval_ofC k cs _ h3 (by omega)
      exact ⟨cs, v, h2, hv, hsv, hht⟩
    by_cases h0 : len0 = 0
    · subst h0
      exact ⟨.nil, by unfold VlsAt; rfl, by omega, by omega, by unfold FlI; trivial, Nat.zero_le _⟩
    · have hsp : a.spot = none := by
        obtain ⟨cs, v, h1, _, _⟩ := key 0 (by omega)
        have := spot_of h1 (by omega)
        simpa [Addr.add] using this
      obtain ⟨bb, off, spot⟩ := a
      simp only at hsp
      subst hsp
      obtain ⟨l, hl, hlq, hlw⟩ := jvls_ofW w bb (elems.map (fun e => Rows.uptoBulk e.1)) off (fun i hi => by
        rw [List.length_map] at hi
        obtain ⟨cs, v, h1, h2, h3, h4⟩ := key i (by omega)
        rw [Addr.add_lit] at h1
        exact ⟨cs, v, (row_of h1 rfl).2, h2, h3, by rw [List.getElem_map]; exact h4⟩)
      rw [List.length_map, hel] at hl
      have := jbk_sum (elems.map (·.1))
      rw [List.map_map] at this
      have e2 : (elems.map (fun e => Rows.uptoBulk e.1)).sum = Rows.uptoBulkAll (elems.map (·.1)) := this
      exact ⟨l, hl, hlc, by omega, FlI.mk hlq, by omega⟩
end
end Go.Proofs.YtechaplindbfoaaGreatDoor.jsn
