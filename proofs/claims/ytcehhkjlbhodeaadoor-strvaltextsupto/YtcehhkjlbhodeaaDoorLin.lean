import Derived.Test.YtcehhkjlbhodeaaDoorPlc
import Derived.Laws.CopyOwn
namespace Go.Proofs.YtcehhkjlbhodeaaDoor.mem
open Go.ChangeShapes Go.WideShapes Go.ChangeAt Go.RowKit
open ints (hide unhide)
set_option linter.unusedVariables false

theorem size32 : (Tryd.prog.info? 21).map (·.size) = some 1 := by kernel_rfl
theorem splice_all {α : Type} (L cs : List α) (h : L.length = cs.length) : splice L 0 cs = cs := by
  unfold splice
  rw [Nat.zero_add, List.drop_eq_nil_of_le (by omega)]
  simp
theorem own_block {w : World} {base g n cap : Nat} {e : TypeId} {xs : List Value} (h : w.ownsRow base e 1 (.slice (some ⟨g, 0, none⟩) n cap) n xs) : ∃ cur : Array Value, w.heap[g]? = some (.cells cur.toList.toArray e (0, 0)) ∧ cur.size = cap := by
  rcases h.2 with ⟨h2, _⟩ | ⟨g', cap', cur, hv, hg, hh, hnc, hcm, hcs, hx⟩
  · cases h2
  · simp only [Value.slice.injEq, Option.some.injEq, Addr.mk.injEq] at hv
    obtain ⟨⟨rfl, _, _⟩, _, rfl⟩ := hv
    exact ⟨cur, by simpa using hh, by simpa using hcs⟩
theorem row_some {k : IntKind} {w : World} {a : Option Addr} {n cap : Nat} {zs : List Int} (h : Row k w a n cap zs) (hn : 0 < n) : ∃ ad, a = some ad ∧ ∀ j u, (zs.map (Value.int k))[j]? = some u → w.cell? (ad.add j) = some u := by
  rcases h.at_ with h0 | ⟨b, off, rfl, _, _⟩
  · omega
  · exact ⟨_, rfl, h.cells _ rfl⟩
theorem own_lo {w : World} {base base' : Nat} {e : TypeId} {size : Nat} {v : Value} {n : Nat} {xs : List Value} (h : w.ownsRow base e size v n xs) (hb : base' ≤ base) : w.ownsRow base' e size v n xs :=
  ⟨h.1, h.2.imp id (fun ⟨g', r1, r2, r3, r4, r5⟩ => ⟨g', r1, r2, r3, Nat.le_trans hb r4, r5⟩)⟩
theorem newLine_any (a : Option Addr) (n c : Nat) (l : List Int) (w : World) (h : Row .i32 w a n c l) (hn : 4 * n ≤ 281474976710656) :
    Calls Tryd.prog 38 #[.slice a n c] w fun e w' => e = .returned (.slice (some ⟨w.heap.size, 0, none⟩) n n) ∧
      w'.ownsRow w.heap.size 21 1 (.slice (some ⟨w.heap.size, 0, none⟩) n n) n (l.map (Value.int .i32)) ∧ Below w.heap.size w w' := by
  obtain ⟨i0, hi, hz0, hz1, hz2⟩ := info_parts info32
  have hl : (l.map (Value.int .i32)).length = n := by simp [h.len]
  go_enter Tryd.func38, Tryd.ntmps38
  go_wp2_with (first
    | (refine wpList_make_full _ rfl _ _ 37 rfl w.heap.size 21 i0 (.int .i32 0) 1 Tryd.underlying37 hi hz0 hz1 .i64 .i64 _ _ n rfl rfl rfl rfl (by rw [hz2]; omega) (by unfold maxLen; omega) (Nat.le_refl _) ?_; intro w1 hown hgrow; have hg1 := belowNone hgrow; have hr1 := h.below hg1; obtain ⟨cur, hcur, hcs⟩ := own_block hown)
    | (refine wpList_copy_splice rfl (.tmp 7) (.tmp 8) 37 37 rfl 21 Tryd.underlying37 size32 _ _ n n n c rfl rfl w.heap.size 0 cur.toList 21 hcur (l.map (Value.int .i32)) (by rw [hl]; exact (Nat.min_self n).symm) (fun hp => ⟨rfl, row_some hr1 (by rw [hl] at hp; exact hp)⟩) (by rw [hl]; simp; omega) (ints_oneCell _ _) w.heap.size w hg1 (Nat.le_refl _) ?_; intro w2 hrow2 hb2))
  go_ret
  refine ⟨rfl, ?_, hb2⟩
  have := hrow2.out
  rw [splice_all _ _ (by rw [hl]; simpa using hcs)] at this
  exact ⟨by simp [h.len], .inr ⟨w.heap.size, n, _, rfl, Nat.le_refl _, this, Nat.le_refl _, by unfold maxLen; omega, by simp [h.len], by rw [Nat.mul_one]; exact List.take_of_length_le (by simp [h.len])⟩⟩

def toOf (l : List Int) (k : Nat) : Nat := if 1 ≤ k ∧ prB l (k - 1) = true then k - 1 else k
def cut (l : List Int) (a b : Nat) : List Int := (l.drop a).take (b - a)
def linesTo (l : List Int) : Nat → List (List Int) × Nat
  | 0 => ([], 0)
  | k + 1 => if enB l k then ((linesTo l k).1 ++ [cut l (linesTo l k).2 (toOf l k)], k + 1) else linesTo l k
def linesL (l : List Int) : List (List Int) := (linesTo l l.length).1 ++ [l.drop (linesTo l l.length).2]
theorem en_pr (l : List Int) (k : Nat) (h : prB l k = true) : enB l k = false := by
  have h2 := h
  simp only [prB, Bool.and_eq_true, beq_iff_eq] at h2
  unfold enB
  rw [h, h2.1.2]
  rfl
theorem linesTo_inv (l : List Int) (k : Nat) : (linesTo l k).2 ≤ k ∧ ((linesTo l k).2 = 0 ∨ enB l ((linesTo l k).2 - 1) = true) ∧ (linesTo l k).1.length ≤ k := by
  induction k with
  | zero => simp [linesTo]
  | succ k ih =>
    simp only [linesTo]
    split
    · rename_i h
      refine ⟨Nat.le_refl _, .inr (by simpa using h), by simp; omega⟩
    · exact ⟨by omega, ih.2.1, by omega⟩
theorem from_to (l : List Int) (k : Nat) : (linesTo l k).2 ≤ toOf l k ∧ toOf l k ≤ k := by
  have h := linesTo_inv l k
  unfold toOf
  split
  · rename_i hp
    refine ⟨?_, by omega⟩
    rcases Nat.lt_or_ge (linesTo l k).2 k with h1 | h1
    · omega
    · exfalso
      have e : (linesTo l k).2 = k := by omega
      rcases h.2.1 with h2 | h2
      · omega
      · rw [e, en_pr l (k - 1) hp.2] at h2
        cases h2
  · omega
def lineVal (g : Nat) (ln : List Int) : Value := .slice (some ⟨g, 0, none⟩) ln.length ln.length
structure LinesAt (w : World) (base : Nat) (v : Value) (gs : List Nat) (lns : List (List Int)) : Prop where
  len : gs.length = lns.length
  own : w.ownsRow base 37 1 v lns.length (List.zipWith lineVal gs lns)
  each : ∀ i, i < lns.length → w.ownsRow base 21 1 (lineVal (gs.getD i 0) (lns.getD i [])) (lns.getD i []).length ((lns.getD i []).map (Value.int .i32))
  nodup : gs.Nodup
theorem LinesAt.below {w w' : World} {base : Nat} {v : Value} {gs : List Nat} {lns : List (List Int)} (h : LinesAt w base v gs lns) (hb : Below w.heap.size w w') : LinesAt w' base v gs lns :=
  ⟨h.len, own_below h.own hb, fun i hi => own_below (h.each i hi) hb, h.nodup⟩
theorem LinesAt.low {w : World} {base base' : Nat} {v : Value} {gs : List Nat} {lns : List (List Int)} (h : LinesAt w base v gs lns) (hb : base' ≤ base) : LinesAt w base' v gs lns :=
  ⟨h.len, own_lo h.own hb, fun i hi => own_lo (h.each i hi) hb, h.nodup⟩
theorem line_block {w : World} {base g : Nat} {ln : List Int} (h : w.ownsRow base 21 1 (lineVal g ln) ln.length (ln.map (Value.int .i32))) : base ≤ g ∧ ∃ cur, w.heap[g]? = some (.cells cur 21 (0, 0)) := by
  rcases h.2 with ⟨h2, _⟩ | ⟨g', cap', cur, hv, hg, hh, _⟩
  · cases h2
  · simp only [lineVal, Value.slice.injEq, Option.some.injEq, Addr.mk.injEq] at hv
    obtain ⟨⟨rfl, _, _⟩, _, _⟩ := hv
    exact ⟨hg, cur, hh⟩
theorem outer_block {w : World} {base : Nat} {v : Value} {n : Nat} {xs : List Value} (h : w.ownsRow base 37 1 v n xs) : ∀ G, v.ownBlock = some G → ∃ cur, w.heap[G]? = some (.cells cur 37 (0, 0)) := by
  intro G hG
  rcases h.2 with ⟨rfl, _⟩ | ⟨g', cap', cur, rfl, hg, hh, _⟩
  · cases hG
  · obtain rfl := Option.some.inj hG
    exact ⟨cur, hh⟩
/-- One line more: the new line's row lies in 'w1', the outer row has been appended to. -/
theorem LinesAt.snoc {w w1 w2 : World} {base : Nat} {v v' : Value} {gs : List Nat} {lns : List (List Int)} {o : Obj} {g : Nat} {ln : List Int}
    (h : LinesAt w base v gs lns) (hg : g = w.heap.size) (hb : Below w.heap.size w w1) (hln : w1.ownsRow base 21 1 (lineVal g ln) ln.length (ln.map (Value.int .i32)))
    (hown : w2.ownsRow base 37 1 v' (lns.length + 1) (List.zipWith lineVal gs lns ++ [lineVal g ln])) (hgrow : (w1.alloc o).grownBy w2 v.ownBlock) :
    LinesAt w2 base v' (gs ++ [g]) (lns ++ [ln]) := by
  have hne : ∀ (g' : Nat) (ln' : List Int), w1.ownsRow base 21 1 (lineVal g' ln') ln'.length (ln'.map (Value.int .i32)) → w2.ownsRow base 21 1 (lineVal g' ln') ln'.length (ln'.map (Value.int .i32)) := by
    intro g' ln' h'
    refine (h'.alloc o).kept hgrow (.inr ?_)
    intro e
    obtain ⟨cur, hcur⟩ := outer_block (own_below h.own hb) g' (by rw [← e]; rfl)
    obtain ⟨_, cur', hcur'⟩ := line_block h'
    rw [hcur'] at hcur
    simp at hcur
  refine ⟨by simp [h.len], ?_, fun i hi => ?_, ?_⟩
  · rw [List.zipWith_append (by exact h.len)]
    simpa using hown
  · by_cases hi' : i < lns.length
    · have e1 : (gs ++ [g]).getD i 0 = gs.getD i 0 := by simp [List.getD, List.getElem?_append_left (show i < gs.length by rw [h.len]; exact hi')]
      have e2 : (lns ++ [ln]).getD i [] = lns.getD i [] := by simp [List.getD, List.getElem?_append_left hi']
      rw [e1, e2]
      exact hne _ _ (own_below (h.each i hi') hb)
    · have e : i = lns.length := by simp at hi; omega
      have e1 : (gs ++ [g]).getD i 0 = g := by rw [e, ← h.len]; simp [List.getD]
      have e2 : (lns ++ [ln]).getD i [] = ln := by rw [e]; simp [List.getD]
      rw [e1, e2]
      exact hne _ _ hln
  · rw [List.nodup_append]
    refine ⟨h.nodup, by simp, ?_⟩
    intro x hx y hy e
    simp at hy
    subst hy
    subst e
    obtain ⟨i, hi, rfl⟩ := List.mem_iff_getElem.1 hx
    obtain ⟨_, cur, hcur⟩ := line_block (h.each i (by rw [← h.len]; exact hi))
    have e1 : gs.getD i 0 = gs[i] := by simp [List.getD, hi]
    rw [e1, hg, Array.getElem?_eq_none (Nat.le_refl _)] at hcur
    cases hcur
end Go.Proofs.YtcehhkjlbhodeaaDoor.mem
