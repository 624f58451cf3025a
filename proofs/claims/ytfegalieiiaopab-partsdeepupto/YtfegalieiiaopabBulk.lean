import Derived.Test.YtfegalieiiaopabRows
import Derived.Test.YtfegalieiiaopabOpen
import Derived.OpenShut
namespace Go.Proofs.Ytfegalieiiaopab.mem
open Go.ChangeShapes Go.WideShapes Go.ChangeAt Go.RowKit
open ints (hide unhide)
set_option linter.unusedVariables false

theorem bulk_pos {H : Type} (d : DataW H) : 1 ≤ Rows.uptoBulk d := by
  cases d with
  | lit l => cases l <;> simp [Rows.uptoBulk]
  | _ => simp [Rows.uptoBulk]
theorem bulk_mem {H : Type} {d : DataW H} : ∀ {l : List (DataW H)}, d ∈ l → Rows.uptoBulk d ≤ Rows.uptoBulkAll l
  | x :: r, h => by
    simp only [Rows.uptoBulkAll]
    rcases List.mem_cons.1 h with e | e
    · subst e; omega
    · have := bulk_mem e; omega
theorem bulk_len {H : Type} : ∀ (l : List (DataW H)), l.length ≤ Rows.uptoBulkAll l
  | [] => by simp [Rows.uptoBulkAll]
  | x :: r => by
    have := bulk_len r
    have := bulk_pos x
    simp only [Rows.uptoBulkAll, List.length_cons]
    omega
theorem bulk_slice {H : Type} (e s : List (DataW H)) : e.length + s.length ≤ Rows.uptoBulk (.slice e s) := by
  have := bulk_len e
  have := bulk_len s
  simp only [Rows.uptoBulk]
  omega
theorem bulk_elems {H : Type} (e s : List (DataW H)) : Rows.uptoBulkAll e ≤ Rows.uptoBulk (.slice e s) := by
  simp only [Rows.uptoBulk]
  omega
theorem bulk_le {H : Type} {l : List (DataW H)} (hk : Rows.uptoSmall H l = true) : Rows.uptoBulkAll l ≤ 1048576 := of_decide_eq_true hk

theorem wf_byt {zs : List Int} (h : ∀ z ∈ zs, (Lit.int .u8 z).wf = true) : ∀ z ∈ zs, 0 ≤ z ∧ z ≤ 255 := fun z hz => by
  simpa [Lit.wf, IntKind.min, IntKind.max, IntKind.signed, IntKind.bits] using h z hz

/-- The reading of a slice of integers, opened, its length bounded by its bulk. -/
theorem row_of {H : Type} {enc : TypeId × Value → H} {P : Program} {w : World} {base : Nat} {held : Bool} {t q : TypeId} {k : IntKind} {fuel : Nat} {a0 : Option Addr} {len0 cap0 : Nat} {d : DataW H} {p : List MemPlace}
    (ht : P.underlying t = some (.slice q)) (hq : P.underlying q = some (.int k)) (cq : P.cellsOf q = 1)
    (h : DataW.trod enc P w base (fun _ => true) held fuel t [.slice a0 len0 cap0] = some (d, p)) :
    ∃ zs, Row k w a0 len0 cap0 zs ∧ (∀ z ∈ zs, (Lit.int k z).wf = true) ∧ len0 ≤ Rows.uptoBulk d := by
  rcases open_ints ht hq cq h with ⟨hcs, _⟩ | ⟨x, l, c, zs, hcs, _, hl, hm, hz, hx, hcell, hwz⟩
  · simp at hcs
    obtain ⟨rfl, rfl, rfl⟩ := hcs
    exact ⟨[], ⟨rfl, Nat.le_refl _, fun _ => rfl, .inl rfl⟩, by simp, Nat.zero_le _⟩
  · simp at hcs
    obtain ⟨rfl, rfl, rfl⟩ := hcs
    simp only [if_true] at hz
    simp only [Prod.mk.injEq] at hx
    refine ⟨zs.take len0, row_of_cells hl hz (fun e => by cases e) (fun a' ha c hc => ?_), fun z hz' => hwz z (List.mem_of_mem_take hz'), ?_⟩
    · obtain rfl := Option.some.inj ha
      exact hcell c (by rw [hz]; exact hc)
    · rw [hx.1]
      refine Nat.le_trans ?_ (bulk_slice _ _)
      simp [lits]
      omega

/-- The reading of a slice of slices of integers, opened, the inner lengths bounded by the bulk. -/
theorem rows2_bulk {H : Type} {enc : TypeId × Value → H} {P : Program} {w : World} {base : Nat} {held : Bool} {t e q : TypeId} {k : IntKind} {fuel : Nat} {a0 : Option Addr} {len0 cap0 : Nat} {d : DataW H} {p : List MemPlace}
    (ht : P.underlying t = some (.slice e)) (he : P.underlying e = some (.slice q)) (hq : P.underlying q = some (.int k)) (ce : P.cellsOf e = 1) (cq : P.cellsOf q = 1)
    (h : DataW.trod enc P w base (fun _ => true) held fuel t [.slice a0 len0 cap0] = some (d, p)) :
    ∃ zss, Rows2 k w a0 len0 (Rows.uptoBulk d) zss ∧ len0 ≤ Rows.uptoBulk d ∧ ∀ i, ∀ z ∈ zss.getD i [], (Lit.int k z).wf = true := by
  rcases Go.Deep.open_int_rows ht he hq ce cq h with ⟨hcs, _⟩ | ⟨a, len, cap, A, L, C, Z, hcs, _, hl, hm, hx, hcell⟩
  · simp at hcs
    obtain ⟨rfl, rfl, rfl⟩ := hcs
    exact ⟨[], ⟨rfl, .inl rfl⟩, Nat.zero_le _, by simp⟩
  · simp at hcs
    obtain ⟨rfl, rfl, rfl⟩ := hcs
    simp only [Prod.mk.injEq] at hx
    obtain ⟨hd, _⟩ := hx
    refine ⟨(List.range len0).map fun r => (Z r).take (L r), ⟨by simp, ?_⟩, ?_, ?_⟩
    · by_cases h0 : len0 = 0
      · exact .inl h0
      · right
        obtain ⟨b, off, spot⟩ := a
        have hc := (hcell 0 (by omega)).1
        have hspot : spot = none := by simpa [Addr.add] using World.cell?_spot hc
        subst hspot
        refine ⟨b, off, rfl, World.block_lt_of_cell? w _ hc, fun i hi => ?_⟩
        obtain ⟨c1, c2, c3, c4, c5, c6, c7⟩ := hcell i (by omega)
        rw [Addr.add_lit] at c1
        have hrow := row_of_cells (k := k) (w := w) c2 c4 c6 (fun a' ha c hc => (c7 a' ha).2 c hc)
        refine ⟨A i, L i, C i, c1, by simpa [List.getD, hi] using hrow, ?_⟩
        cases hA : A i with
        | none => have := c6 hA; omega
        | some a' =>
          have h1 : Rows.uptoBulk (Go.Deep.intRow (H := H) k (A i) (L i) (Z i)) ≤ Rows.uptoBulk d := by
            rw [hd]
            exact Nat.le_trans (bulk_mem (List.mem_map.2 ⟨i, by simp [hi], rfl⟩)) (bulk_elems _ _)
          refine Nat.le_trans ?_ h1
          simp only [Go.Deep.intRow, hA]
          refine Nat.le_trans ?_ (bulk_slice _ _)
          simp [lits]
          omega
    · rw [hd]
      refine Nat.le_trans ?_ (bulk_slice _ _)
      simp
    · intro i z hz
      by_cases hi : i < len0
      · have : z ∈ (Z i).take (L i) := by simpa [List.getD, hi] using hz
        exact (hcell i (by omega)).2.2.2.2.1 z (List.mem_of_mem_take this)
      · simp [List.getD, hi] at hz
end Go.Proofs.Ytfegalieiiaopab.mem
