import Derived.Test.YtidkdnlbecompabOpen
import Derived.OpenShut
namespace Go.Proofs.Ytidkdnlbecompab.mem
open Go.ChangeShapes Go.WideShapes Go.ChangeAt Go.RowKit
set_option linter.unusedVariables false

/-- The reading of a slice of integers, opened, its length bounded by the reach. -/
theorem row_reach {H : Type} {enc : TypeId × Value → H} {P : Program} {w : World} {base : Nat} {held : Bool} {t q : TypeId} {k : IntKind} {fuel : Nat} {a0 : Option Addr} {len0 cap0 : Nat} {d : DataW H} {p : List MemPlace}
    (ht : P.underlying t = some (.slice q)) (hq : P.underlying q = some (.int k)) (cq : P.cellsOf q = 1)
    (h : DataW.trod enc P w base (fun _ => true) held fuel t [.slice a0 len0 cap0] = some (d, p)) (hN : ∀ n, n ∈ d.weights P t → n ≤ reachBytes) :
    ∃ zs, Row k w a0 len0 cap0 zs ∧ (∀ z ∈ zs, (Lit.int k z).wf = true) ∧ len0 * P.bytesOf q ≤ reachBytes := by
  rcases open_ints ht hq cq h with ⟨hcs, _⟩ | ⟨x, l, c, zs, hcs, _, hl, hm, hz, hx, hcell, hwz⟩
  · simp at hcs
    obtain ⟨rfl, rfl, rfl⟩ := hcs
    exact ⟨[], ⟨rfl, Nat.le_refl _, fun _ => rfl, .inl rfl⟩, by simp, by simp⟩
  · simp at hcs
    obtain ⟨rfl, rfl, rfl⟩ := hcs
    simp only [if_true] at hz
    simp only [Prod.mk.injEq] at hx
    refine ⟨zs.take len0, row_of_cells hl hz (fun e => by cases e) (fun a' ha c hc => ?_), fun z hz' => hwz z (List.mem_of_mem_take hz'), ?_⟩
    · obtain rfl := Option.some.inj ha
      exact hcell c (by rw [hz]; exact hc)
    · have hm : cap0 * P.bytesOf q ∈ d.weights P t := by
        rw [hx.1]
        simp only [DataW.weights, ht]
        refine List.mem_cons.2 (.inl ?_)
        simp only [lits, List.length_map, List.length_take, List.length_drop]
        rw [show min len0 zs.length + (zs.length - len0) = cap0 from by omega]
      exact Nat.le_trans (Nat.mul_le_mul_right _ hl) (hN _ hm)
end Go.Proofs.Ytidkdnlbecompab.mem
