import Derived.Test.YtidkdnlbecompacPlcR
import Derived.Test.YtidkdnlbecompacAwk
namespace Go.Proofs.Ytidkdnlbecompac.mem
open Go.ChangeShapes Go.WideShapes Go.ChangeAt Go.RowKit
open ints (hide unhide)
set_option linter.unusedVariables false

theorem posCells_get (ps : List (Int × Int)) (m : Nat) (h : m < ps.length) : (posCells ps)[m * 2]? = some (.int .i64 (ps[m]).1) ∧ (posCells ps)[m * 2 + 1]? = some (.int .i64 (ps[m]).2) := by
  induction ps generalizing m with
  | nil => simp at h
  | cons p ps ih =>
    cases m with
    | zero => exact ⟨rfl, rfl⟩
    | succ m =>
      have := ih m (by simpa using h)
      have e : posCells (p :: ps) = .int .i64 p.1 :: .int .i64 p.2 :: posCells ps := rfl
      rw [e, show (m + 1) * 2 = m * 2 + 1 + 1 from by omega]
      simpa using this
theorem plist_get (l : List Int) (k m : Nat) (h : m < k) : (plist l k)[m]'(by rw [plist_len]; exact h) = posT l m := by simp [plist]
/-- What a reader finds in a row of places. -/
theorem pos_some {w : World} {base : Nat} {v : Value} {l : List Int} {n : Nat} (h : w.ownsRow base 43 2 v (n + 1) (posCells (plist l (n + 1)))) :
    ∃ g cap, v = .slice (some ⟨g, 0, none⟩) (n + 1) cap ∧ g < w.heap.size ∧ ∀ m, m ≤ n → w.cell? ⟨g, m * 2, none⟩ = some (.int .i64 (posT l m).1) ∧ w.cell? ⟨g, m * 2 + 1, none⟩ = some (.int .i64 (posT l m).2) := by
  rcases h.2 with ⟨_, h2⟩ | ⟨g, cap, cur, rfl, hg, hh, r⟩
  · omega
  · refine ⟨g, cap, rfl, (Array.getElem?_eq_some_iff.1 hh).1, fun m hm => ?_⟩
    have hp := posCells_get (plist l (n + 1)) m (by rw [plist_len]; omega)
    rw [plist_get l (n + 1) m (by omega)] at hp
    rw [World.ownsRow.cellAt h (m * 2) (by omega), World.ownsRow.cellAt h (m * 2 + 1) (by omega)]
    exact hp
set_option maxHeartbeats 2000000 in
theorem rplace_any (a : Option Addr) (n c : Nat) (l : List Int) (i : Int) (w : World) (h : Row .i32 w a n c l) (hn : n ≤ 1099511627776) (hw1 : -9223372036854775808 ≤ i) (hw2 : i ≤ 9223372036854775807) :
    Calls Try.prog 24 #[.slice a n c, .int .i64 i] w fun e w' => e = .returned (.agg #[.int .i64 (posT l (clampN i n)).1, .int .i64 (posT l (clampN i n)).2]) ∧ Below w.heap.size w w' := by
  have hcl := clampN_eq i n
  have hm := clampN_le i n
  have hb0 : Below w.heap.size w (w.alloc (.cells #[.int .i64 0, .int .i64 0] 43)) := (Below.refl _ _).alloc (Nat.le_refl _) _
  have P := hide (rplaces_any a n c l _ (h.below hb0) hn)
  have bx := hide (box_new w 0 0 w.heap.size rfl)
  have HB0 := hide hb0
  obtain ⟨m, hmm⟩ : ∃ m, m = clampN i n := ⟨_, rfl⟩
  rw [← hmm] at hcl hm ⊢
  have Hcl := hide hcl
  clear hmm hb0 hcl
  by_cases h1 : i < 0
  · have em : m = 0 := by have := unhide Hcl; omega
    subst em
    go_enter Try.func24, Try.ntmps24
    go_wp2_with fail
    refine (unhide P).mono ?_
    rintro e w1 ⟨v, rfl, ho, hb⟩
    obtain ⟨g, cap, rfl, hgl, hcells⟩ := pos_some ho
    obtain ⟨c1, c2⟩ := hcells 0 (by omega)
    have bx1 := (unhide bx).below hb
    obtain ⟨q0, q1, q2, q3⟩ := bx1.cells
    obtain ⟨t0, t1, _, _⟩ := (bx1.set (posT l 0).1 (posT l 0).2).cells
    have T0 := hide t0
    have T1 := hide t1
    have HB := hide ((unhide HB0).trans (hb.mono (by simp)))
    clear hcells P ho t0 t1 hb
    go_wp2
    exact bodyPost_ret (v := .agg #[.int .i64 (posT l 0).1, .int .i64 (posT l 0).2]) (by simp [results, Try.results24, go_sem, unhide T0, unhide T1]) rfl ⟨rfl, ((unhide HB).setCell (Nat.le_refl _) _).setCell (Nat.le_refl _) _⟩
  · by_cases h2 : (n : Int) < i
    · have em : m = n := by have := unhide Hcl; omega
      subst em
      go_enter Try.func24, Try.ntmps24
      go_wp2_with fail
      refine (unhide P).mono ?_
      rintro e w1 ⟨v, rfl, ho, hb⟩
      obtain ⟨g, cap, rfl, hgl, hcells⟩ := pos_some ho
      obtain ⟨c1, c2⟩ := hcells m (by omega)
      have bx1 := (unhide bx).below hb
      obtain ⟨q0, q1, q2, q3⟩ := bx1.cells
      obtain ⟨t0, t1, _, _⟩ := (bx1.set (posT l m).1 (posT l m).2).cells
      have T0 := hide t0
      have T1 := hide t1
      have HB := hide ((unhide HB0).trans (hb.mono (by simp)))
      clear hcells P ho t0 t1 hb
      go_wp2
      exact bodyPost_ret (v := .agg #[.int .i64 (posT l m).1, .int .i64 (posT l m).2]) (by simp [results, Try.results24, go_sem, unhide T0, unhide T1]) rfl ⟨rfl, ((unhide HB).setCell (Nat.le_refl _) _).setCell (Nat.le_refl _) _⟩
    · have ei : i = (m : Int) := by have := unhide Hcl; omega
      subst ei
      have hmn : ¬ (n : Int) < (m : Int) := by omega
      have hm0 : ¬ (m : Int) < 0 := by omega
      go_enter Try.func24, Try.ntmps24
      go_wp2_with fail
      refine (unhide P).mono ?_
      rintro e w1 ⟨v, rfl, ho, hb⟩
      obtain ⟨g, cap, rfl, hgl, hcells⟩ := pos_some ho
      obtain ⟨c1, c2⟩ := hcells m (by omega)
      have bx1 := (unhide bx).below hb
      obtain ⟨q0, q1, q2, q3⟩ := bx1.cells
      obtain ⟨t0, t1, _, _⟩ := (bx1.set (posT l m).1 (posT l m).2).cells
      have T0 := hide t0
      have T1 := hide t1
      have HB := hide ((unhide HB0).trans (hb.mono (by simp)))
      clear hcells P ho t0 t1 hb
      go_wp2
      exact bodyPost_ret (v := .agg #[.int .i64 (posT l m).1, .int .i64 (posT l m).2]) (by simp [results, Try.results24, go_sem, unhide T0, unhide T1]) rfl ⟨rfl, ((unhide HB).setCell (Nat.le_refl _) _).setCell (Nat.le_refl _) _⟩
theorem copiedR (a : Option Addr) (n c : Nat) (zs : List Int) (w : World) (h : Row .i32 w a n c zs) (hn : n ≤ 1099511627776) :
    Calls Try.prog 8 #[.slice a n c] w fun e w' => e = .returned (.slice (some ⟨w.heap.size, 0, none⟩) n n) ∧ Row .i32 w' (some ⟨w.heap.size, 0, none⟩) n n zs ∧ Below w.heap.size w w' := by
  refine (copiedRunes_any a n c zs w h (by omega)).mono ?_
  rintro e w' ⟨rfl, ho, hb⟩
  exact ⟨rfl, row_at ho, hb⟩
theorem wf64 {i : Int} (h : (Lit.int .i64 i).wf = true) : -9223372036854775808 ≤ i ∧ i ≤ 9223372036854775807 := by
  simpa [Lit.wf, IntKind.min, IntKind.max, IntKind.signed, IntKind.bits] using h
end Go.Proofs.Ytidkdnlbecompac.mem
