import Derived.Test.YtidkdnlbecompacWri
import Derived.ArgAppend
namespace Go.Proofs.Ytidkdnlbecompac.mem
open Go.ChangeShapes Go.WideShapes Go.ChangeAt Go.RowKit
open ints (hide unhide)
set_option linter.unusedVariables false

/-- A list of lists in memory, each a row of the call's own, no two in one block. -/
structure Lists (W : World) (base L off m : Nat) (vs : Nat → Value) (ls : Nat → List Int) : Prop where
  cell : ∀ j, j < m → W.cell? ⟨L, off + j, none⟩ = some (vs j)
  typ : ∃ cur fz, W.heap[L]? = some (.cells cur 22 fz)
  own : ∀ j, j < m → W.ownsRow base 21 1 (vs j) (ls j).length ((ls j).map (Value.int .i32))
  dist : ∀ j j', j < m → j' < m → j ≠ j' → ∀ q, (vs j).ownBlock = some q → (vs j').ownBlock ≠ some q
theorem block_of_own {w : World} {base : Nat} {e : TypeId} {size n q : Nat} {v : Value} {xs : List Value} (h : w.ownsRow base e size v n xs) (hq : v.ownBlock = some q) : base ≤ q ∧ ∃ cap cur, v = .slice (some ⟨q, 0, none⟩) n cap ∧ w.heap[q]? = some (.cells cur e (0, 0)) := by
  rcases h.2 with ⟨rfl, _⟩ | ⟨g, cap, cur, rfl, hg, hh, r⟩
  · cases hq
  · obtain rfl := Option.some.inj hq
    exact ⟨hg, cap, cur, rfl, hh⟩
theorem Lists.ne {W : World} {base L off m : Nat} {vs : Nat → Value} {ls : Nat → List Int} (h : Lists W base L off m vs ls) {j q : Nat} (hj : j < m) (hq : (vs j).ownBlock = some q) : q ≠ L := by
  intro e
  subst e
  obtain ⟨_, cap, cur, _, h1⟩ := block_of_own (h.own j hj) hq
  obtain ⟨cur', fz, h2⟩ := h.typ
  rw [h1] at h2
  simp at h2
theorem Lists.congr {W : World} {base L off m : Nat} {vs : Nat → Value} {ls ls' : Nat → List Int} (h : Lists W base L off m vs ls) (e : ∀ j, j < m → ls j = ls' j) : Lists W base L off m vs ls' :=
  ⟨h.cell, h.typ, fun j hj => by rw [← e j hj]; exact h.own j hj, h.dist⟩
theorem Lists.set {W : World} {base L off m : Nat} {vs : Nat → Value} {ls : Nat → List Int} (h : Lists W base L off m vs ls) {i g n c k : Nat} (hi : i < m) (hv : vs i = .slice (some ⟨g, 0, none⟩) n c) (x : Int) :
    Lists (W.setCell ⟨g, k, none⟩ (.int .i32 x)) base L off m vs (fun j => if j = i then (ls i).set k x else ls j) := by
  have hq : (vs i).ownBlock = some g := by rw [hv]; rfl
  have hgL := h.ne hi hq
  have hn : n = (ls i).length := by
    obtain ⟨_, cap, cur, e, _⟩ := block_of_own (h.own i hi) hq
    rw [hv] at e
    simp only [Value.slice.injEq] at e
    exact e.2.1
  refine ⟨fun j hj => ?_, ?_, fun j hj => ?_, h.dist⟩
  · rw [← h.cell j hj]
    exact World.cell?_of_block (Below.heap_setCell _ _ _ _ (fun e => hgL e.symm))
  · obtain ⟨cur, fz, h2⟩ := h.typ
    exact ⟨cur, fz, (Below.heap_setCell _ _ _ _ (fun e => hgL e.symm)).trans h2⟩
  · by_cases hji : j = i
    · subst hji
      simp only [if_true]
      rw [List.length_set, ← map_set_int]
      have ho := h.own j hj
      rw [hv, ← hn] at ho ⊢
      exact (ho.stored k _).1
    · simp only [if_neg hji]
      exact ownsRow_setCell_other (h.own j hj) (h.dist i j hi hj (fun e => hji e.symm) g hq) _
theorem Lists.slice {W : World} {base L off m : Nat} {vs : Nat → Value} {ls : Nat → List Int} (h : Lists W base L off m vs ls) {j : Nat} (hj : j < m) : ∃ a c, vs j = .slice a (ls j).length c ∧ Row .i32 W a (ls j).length c (ls j) := own_row (h.own j hj)
theorem Lists.some {W : World} {base L off m : Nat} {vs : Nat → Value} {ls : Nat → List Int} (h : Lists W base L off m vs ls) {j : Nat} (hj : j < m) (h0 : 0 < (ls j).length) : ∃ g c, vs j = .slice (some ⟨g, 0, none⟩) (ls j).length c := by
  rcases (h.own j hj).2 with ⟨_, hl⟩ | ⟨g, cap, cur, hv, _⟩
  · omega
  · exact ⟨g, cap, hv⟩
theorem own_of_eq {w w' : World} {base : Nat} {e : TypeId} {size n : Nat} {v : Value} {xs : List Value} (h : w.ownsRow base e size v n xs) (hk : ∀ q, v.ownBlock = some q → w'.heap[q]? = w.heap[q]?) : w'.ownsRow base e size v n xs := by
  rcases h.2 with ⟨rfl, h0⟩ | ⟨g, cap, cur, rfl, hg, hh, r⟩
  · exact ⟨h.1, .inl ⟨rfl, h0⟩⟩
  · exact own_block_eq h (hk g rfl)
theorem Row.kept {k : IntKind} {w w' : World} {a : Option Addr} {n c : Nat} {l : List Int} (h : Row k w a n c l) (hs : w.heap.size ≤ w'.heap.size) (hk : ∀ q, (Value.slice a n c).ownBlock = some q → w'.heap[q]? = w.heap[q]?) : Row k w' a n c l := by
  refine ⟨h.len, h.le, h.nil, ?_⟩
  rcases h.at_ with h0 | ⟨b, off, rfl, hb, hc⟩
  · exact .inl h0
  · exact .inr ⟨b, off, rfl, Nat.lt_of_lt_of_le hb hs, fun i hi => (World.cell?_of_block (a := ⟨b, off + i, none⟩) (hk b rfl)).trans (hc i hi)⟩
theorem Row.recap {k : IntKind} {w : World} {a : Option Addr} {n c c' : Nat} {l : List Int} (h : Row k w a n c l) (h1 : n ≤ c') (h2 : a = none → c' = 0) : Row k w a n c' l := ⟨h.len, h1, h2, h.at_⟩
theorem grown_more' {w wr w' : World} {r0 r : Option Nat} (h : w.grownBy wr r0) (k : wr.grownBy w' r) (hr : ∀ q, r = some q → r0 = some q ∨ w.heap.size ≤ q) : w.grownBy w' r0 :=
  ⟨k.os.trans h.os, k.tape.trans h.tape, k.output.trans h.output, Nat.le_trans h.size k.size, fun i hi hne => (k.block i (Nat.lt_of_lt_of_le hi h.size) (fun e => by
    rcases hr i e.symm with e2 | e2
    · exact hne e2.symm
    · omega)).trans (h.block i hi hne)⟩
/-- The second half of 'apart': the lists (marked) and those grown out of them. -/
structure Grow (w2 wr : World) (base L off m : Nat) (vs : Nat → Value) (ls : Nat → List Int) (v : Value) (G : Nat → Value) (i : Nat) : Prop where
  cell : ∀ j, j < m → wr.cell? ⟨L, off + j, none⟩ = some (vs j)
  typ : ∃ cur fz, wr.heap[L]? = some (.cells cur 22 fz)
  row : ∀ j, j < m → ∃ a c, vs j = .slice a (ls j).length c ∧ Row .i32 wr a (ls j).length c (ls j)
  own : ∀ j, i ≤ j → j < m → wr.ownsRow base 21 1 (vs j) (ls j).length ((ls j).map (Value.int .i32))
  grw : ∀ j, j < i → wr.ownsRow base 21 1 (G j) ((ls j).length + 17) ((ls j ++ List.replicate 17 (-500000000 - (j : Int))).map (Value.int .i32))
  out : wr.ownsRow w2.heap.size 22 1 v i ((List.range i).map G)
  sep : ∀ j j', j < i → i ≤ j' → j' < m → ∀ q, (G j).ownBlock = some q → (vs j').ownBlock ≠ some q
  lt : ∀ j, j < m → ∀ q, (vs j).ownBlock = some q → q < w2.heap.size
  llt : L < w2.heap.size
  size : w2.heap.size ≤ wr.heap.size
theorem Grow.start {w2 : World} {base L off m : Nat} {vs : Nat → Value} {ls : Nat → List Int} (h : Lists w2 base L off m vs ls) (G : Nat → Value) : Grow w2 w2 base L off m vs ls (.slice none 0 0) G 0 := by
  refine ⟨h.cell, h.typ, fun j hj => h.slice hj, fun j _ hj => h.own j hj, fun j hj => by omega, World.ownsRow_nil _ _ _ _, fun j j' hj => by omega, fun j hj q hq => ?_, ?_, Nat.le_refl _⟩
  · exact ((h.own j hj).lt q hq).2
  · obtain ⟨cur, fz, h2⟩ := h.typ
    exact (Array.getElem?_eq_some_iff.1 h2).1
theorem type_ne {w : World} {base base' : Nat} {n n' size size' : Nat} {v v' : Value} {xs xs' : List Value} {e e' : TypeId} (h : w.ownsRow base e size v n xs) (h' : w.ownsRow base' e' size' v' n' xs') (he : e ≠ e') {q : Nat} (hq : v.ownBlock = some q) : some q ≠ v'.ownBlock := by
  intro e2
  obtain ⟨_, _, _, _, h1⟩ := block_of_own h hq
  obtain ⟨_, _, _, _, h2⟩ := block_of_own h' e2.symm
  rw [h1] at h2
  simp at h2
  exact he h2.2
theorem Grow.step {w2 w1 wa wb : World} {base L off m : Nat} {vs : Nat → Value} {ls : Nat → List Int} {v v' u : Value} {G : Nat → Value} {i : Nat} {o : Obj}
    (h : Grow w2 w1 base L off m vs ls v G i) (hi : i < m) (dist : ∀ j j', j < m → j' < m → j ≠ j' → ∀ q, (vs j).ownBlock = some q → (vs j').ownBlock ≠ some q)
    (hg : w1.grownBy wa (vs i).ownBlock) (hrow : ∃ a c, vs i = .slice a (ls i).length c ∧ Row .i32 wa a (ls i).length c (ls i))
    (hu : wa.ownsRow base 21 1 u ((ls i).length + 17) ((ls i ++ List.replicate 17 (-500000000 - (i : Int))).map (Value.int .i32)))
    (hq : ∀ q, u.ownBlock = some q → (vs i).ownBlock = some q ∨ w1.heap.size ≤ q)
    (hap : wb.ownsRow w2.heap.size 22 1 v' (i + 1) ((List.range i).map G ++ [u])) (hgr : (wa.alloc o).grownBy wb v.ownBlock) :
    Grow w2 wb base L off m vs ls v' (fun j => if j = i then u else G j) (i + 1) := by
  have hti := h.own i (Nat.le_refl _) hi
  have hsz : w1.heap.size ≤ wa.heap.size := hg.size
  have hsz2 : wa.heap.size ≤ wb.heap.size := Nat.le_trans (by simp) hgr.size
  have hab : ∀ b, b < wa.heap.size → some b ≠ v.ownBlock → wb.heap[b]? = wa.heap[b]? := fun b hb hne => (hgr.block b (by simp; omega) hne).trans (Below.heap_alloc _ _ _ hb)
  have h1b : ∀ b, b < w1.heap.size → some b ≠ (vs i).ownBlock → some b ≠ v.ownBlock → wb.heap[b]? = w1.heap[b]? := fun b hb h1 h2 => (hab b (by omega) h2).trans (hg.block b hb h1)
  have hold : ∀ b, b < w2.heap.size → some b ≠ v.ownBlock := fun b hb e => by
    have := (block_of_own h.out e.symm).1
    omega
  have hva : wa.ownsRow w2.heap.size 22 1 v i ((List.range i).map G) := own_of_eq h.out (fun q hq => hg.block q (h.out.lt q hq).2 (type_ne h.out hti (by decide) hq))
  have hL : wb.heap[L]? = w1.heap[L]? := by
    refine h1b L (by have := h.llt; have := h.size; omega) (fun e => ?_) (hold L h.llt)
    obtain ⟨_, _, _, _, h1⟩ := block_of_own hti e.symm
    obtain ⟨cur, fz, h2⟩ := h.typ
    rw [h1] at h2
    simp at h2
  refine ⟨fun j hj => (World.cell?_of_block (a := ⟨L, off + j, none⟩) hL).trans (h.cell j hj), ?_, fun j hj => ?_, fun j hij hj => ?_, fun j hj => ?_, ?_, fun j j' hj hj1 hj2 q hqq => ?_, h.lt, h.llt, Nat.le_trans h.size (by omega)⟩
  · obtain ⟨cur, fz, h2⟩ := h.typ
    exact ⟨cur, fz, hL.trans h2⟩
  · by_cases hji : j = i
    · subst hji
      obtain ⟨a, c, e, hr⟩ := hrow
      refine ⟨a, c, e, hr.kept hsz2 (fun q hq => ?_)⟩
      rw [← e] at hq
      have := h.lt j hj q hq
      exact hab q (by have := h.size; omega) (hold q this)
    · obtain ⟨a, c, e, hr⟩ := h.row j hj
      refine ⟨a, c, e, hr.kept (by omega) (fun q hq => ?_)⟩
      rw [← e] at hq
      have := h.lt j hj q hq
      exact h1b q (by have := h.size; omega) (fun e2 => dist j i hj hi hji q hq e2.symm) (hold q this)
  · refine own_of_eq (h.own j (by omega) hj) (fun q hq => ?_)
    have := h.lt j hj q hq
    exact h1b q (by have := h.size; omega) (fun e2 => dist j i hj hi (by omega) q hq e2.symm) (hold q this)
  · by_cases hji : j = i
    · subst hji
      simp only [if_true]
      exact own_of_eq hu (fun q hq => hab q (hu.lt q hq).2 (type_ne hu hva (by decide) hq))
    · simp only [if_neg hji]
      have hgj := h.grw j (by omega)
      exact own_of_eq hgj (fun q hq => h1b q (hgj.lt q hq).2 (fun e2 => h.sep j i (by omega) (Nat.le_refl _) hi q hq e2.symm) (type_ne hgj h.out (by decide) hq))
  · rw [List.range_succ, List.map_append]
    have e : (List.range i).map (fun j => if j = i then u else G j) = (List.range i).map G := by
      refine List.map_congr_left fun j hj => ?_
      rw [if_neg (by have := List.mem_range.1 hj; omega)]
    rw [e]
    simpa using hap
  · by_cases hji : j = i
    · subst hji
      simp only [if_true] at hqq
      rcases hq q hqq with h2 | h2
      · exact dist j j' hi hj2 (by omega) q h2
      · intro e
        have := h.lt j' hj2 q e
        have := h.size
        omega
    · simp only [if_neg hji] at hqq
      exact h.sep j j' (by omega) (by omega) hj2 q hqq
theorem Grow.out_at {w2 w1 wa : World} {base L off m : Nat} {vs : Nat → Value} {ls : Nat → List Int} {v : Value} {G : Nat → Value} {i : Nat} (h : Grow w2 w1 base L off m vs ls v G i) (hi : i < m) (hg : w1.grownBy wa (vs i).ownBlock) : wa.ownsRow w2.heap.size 22 1 v i ((List.range i).map G) :=
  own_of_eq h.out (fun q hq => hg.block q (h.out.lt q hq).2 (type_ne h.out (h.own i (Nat.le_refl _) hi) (by decide) hq))
theorem rep_snoc (X : List Int) (y : Int) (t : Nat) : (X ++ List.replicate (t + 1) y).map (Value.int .i32) = (X ++ List.replicate t y).map (Value.int .i32) ++ [.int .i32 y] := by
  rw [List.replicate_succ']
  simp
theorem rep_get (n t k : Nat) (a b : Int) (h : k < n + t) : (List.replicate n a ++ List.replicate t b).getD k 0 = if k < n then a else b := by
  by_cases hkn : k < n
  · simp [List.getD, hkn, List.getElem?_append_left]
  · have e : (List.replicate n a ++ List.replicate t b)[k]? = some b := by
      rw [List.getElem?_append_right (by simp; omega), List.length_replicate, List.getElem?_replicate, if_pos (by omega)]
    rw [if_neg hkn, List.getD_eq_getElem?_getD, e]
    rfl
def lsA (ls : Nat → List Int) (i j : Nat) : List Int := if j < i then List.replicate (ls j).length (-1000 - (j : Int)) else ls j
def lsB (ls : Nat → List Int) (i k j : Nat) : List Int := if j = i then setTo (ls i) (-1000 - (i : Int)) k else lsA ls i j
def lsM (ls : Nat → List Int) (j : Nat) : List Int := List.replicate (ls j).length (-1000 - (j : Int))
set_option maxHeartbeats 4000000 in
set_option maxRecDepth 4000 in
theorem apart_true (L off m c base : Nat) (vs : Nat → Value) (ls : Nat → List Int) (w : World) (h : Lists w base L off m vs ls) (hm : m ≤ 4194304) (hN : ∀ j, (ls j).length ≤ 1099511627776) (hb : base ≤ w.heap.size) :
    Calls Try.prog 15 #[.slice (some ⟨L, off, none⟩) m c] w fun e w' => e = .returned (.bool true) ∧ Below base w w' := by
  obtain ⟨i0, hi0, hz0, hz1, hz2⟩ := info_parts info32
  obtain ⟨j0, hj0, hy0, hy1, hy2⟩ := info_parts infoSl
  go_enter Try.func15, Try.ntmps15
  go_wp2
  go_loopw [4] (fun iv wr => ∃ i : Nat, i ≤ m ∧ iv = .int .i64 i ∧ Lists wr base L off m vs (lsA ls i) ∧ Below base w wr) (fun iv _ => m - (intOf iv).toNat)
  case atStart => exact ⟨0, Nat.zero_le _, rfl, h.congr (fun j hj => by simp [lsA]), Below.refl _ _⟩
  case round =>
    obtain ⟨i, hi, rfl, hL, hB⟩ := hrel
    by_cases hlt : i < m
    · have ii : (i : Int) < (m : Int) := by omega
      clear h
      go_wp2
      go_loopw [5] (fun kv wr => ∃ k : Nat, k ≤ (ls i).length ∧ kv = .int .i64 k ∧ Lists wr base L off m vs (lsB ls i k) ∧ Below base w wr) (fun kv _ => (ls i).length - (intOf kv).toNat)
      case atStart =>
        refine ⟨0, Nat.zero_le _, rfl, hL.congr (fun j hj => ?_), hB⟩
        by_cases hji : j = i
        · subst hji
          simp [lsB, lsA, setTo_zero]
        · simp [lsB, hji]
      case round =>
        obtain ⟨k, hk, rfl, hLk, hBk⟩ := hrel
        have hc := hLk.cell i hlt
        have hlen : (lsB ls i k i).length = (ls i).length := by unfold lsB; rw [if_pos rfl]; exact setTo_len _ _ _ hk
        by_cases hkn : k < (ls i).length
        · obtain ⟨g, cg, hv⟩ := hLk.some hlt (by omega)
          have hS := hLk.set (k := k) hlt hv (-1000 - (i : Int))
          have ho := hLk.own i hlt
          rw [hlen] at hv ho
          rw [hv] at hc ho
          have hBS : Below base w (wr.setCell ⟨g, k, none⟩ (.int .i32 (-1000 - (i : Int)))) := hBk.setCell (own_lt ho).1 _
          have HS := hide (hS.congr (ls' := lsB ls i (k + 1)) (fun j hj => by
            by_cases hji : j = i
            · subst hji
              simp only [lsB, if_true]
              exact setTo_set _ _ _ hkn
            · simp only [lsB, if_neg hji]))
          have HB := hide hBS
          have kn : (k : Int) < ((ls i).length : Int) := by omega
          have hNi := hN i
          have c1 : ∃ v, wr.cell? ⟨g, k, none⟩ = some v := ⟨_, by rw [ho.cellAt k (by omega), List.getElem?_eq_getElem (by rw [ho.1]; omega)]⟩
          obtain ⟨u1, c1⟩ := c1
          have f1 := ho.frozenAt k
          clear hLk hBk hS ho hBS hlen hv
          generalize (ls i).length = n at *
          go_wp2
          go_roundw
          case rel => exact ⟨k + 1, by omega, by go_num, unhide HS, unhide HB⟩
          case measure => simp [intOf]; omega
        · obtain ⟨ag, cg, hv, _⟩ := hLk.slice hlt
          rw [hlen] at hv
          rw [hv] at hc
          have kn : ¬ (k : Int) < ((ls i).length : Int) := by omega
          have HS := hide (hLk.congr (ls' := lsA ls (i + 1)) (fun j hj => by
            by_cases hji : j = i
            · subst hji
              simp only [lsB, if_true, lsA, show j < j + 1 by omega]
              rw [show k = (ls j).length by omega, setTo_full _ _ _ rfl]
            · simp only [lsB, if_neg hji, lsA]
              by_cases h2 : j < i
              · rw [if_pos h2, if_pos (by omega)]
              · rw [if_neg h2, if_neg (by omega)]))
          have HB := hide hBk
          clear hLk hBk hlen hv
          go_wp2
          go_roundw
          case rel => exact ⟨i + 1, by omega, by go_num, unhide HS, unhide HB⟩
          case measure => simp [intOf]; omega
    · have ii : ¬ (i : Int) < (m : Int) := by omega
      have ei : i = m := by omega
      have hLM := hL.congr (ls' := lsM ls) (fun j hj => by simp [lsA, lsM, ei, hj])
      have hB2 := hB
      obtain ⟨w2, hw2⟩ : ∃ w2, w2 = wr := ⟨_, rfl⟩
      subst hw2
      clear hL hB h hi
      have HD := hide hLM.dist
      have HM := hide (show ∀ j, (lsM ls j).length = (ls j).length from fun j => by simp [lsM])
      have HMr := hide (show ∀ j, lsM ls j = List.replicate (ls j).length (-1000 - (j : Int)) from fun j => rfl)
      have G0 := hide (Grow.start hLM (fun _ => .slice none 0 0))
      clear hLM
      go_wp2
      clear ei ii hlt
      generalize lsM ls = M at *
      go_loopw [3, 6] (fun v iv wr => ∃ (i : Nat) (G : Nat → Value), i ≤ m ∧ iv = .int .i64 i ∧ Grow w2 wr base L off m vs M v G i ∧ Below base w wr) (fun _ iv _ => m - (intOf iv).toNat)
      case atStart => exact ⟨0, _, Nat.zero_le _, rfl, unhide G0, hB2⟩
      case round =>
        obtain ⟨i, G, hi, rfl, hG, hB⟩ := hrel
        have hw2s := hB2.size
        clear G0 hB2
        by_cases hlt : i < m
        · have ii : (i : Int) < (m : Int) := by omega
          obtain ⟨w1, hw1⟩ : ∃ w1, w1 = wr := ⟨_, rfl⟩
          subst hw1
          have hc := hG.cell i hlt
          have hoi := hG.own i (Nat.le_refl _) hlt
          obtain ⟨ai, ci, hvi, hri⟩ := hG.row i hlt
          have hNi := hN i
          rw [← unhide HM i] at hNi
          have HG := hide hG
          rw [hvi] at hc hoi
          have hle := hri.le
          have hnil := hri.nil
          have hblk : ∀ q, (Value.slice ai (M i).length ci).ownBlock = some q → ai = some ⟨q, 0, none⟩ := fun q hq => by
            obtain ⟨_, _, _, e, _⟩ := block_of_own hoi hq
            simp only [Value.slice.injEq] at e
            exact e.1
          have hsz := hB.size
          obtain ⟨n, hn⟩ : ∃ n, n = (M i).length := ⟨_, rfl⟩
          obtain ⟨X, hX⟩ : ∃ X, X = M i := ⟨_, rfl⟩
          rw [← hX] at hn
          rw [← hX, ← hn] at hoi hri hblk hc hle hNi
          have HX := hide hX
          have Hn := hide hn
          have Hvi := hide hvi
          have Hblk := hide hblk
          have Hw1lt := hide (show ∀ q, (Value.slice ai n ci).ownBlock = some q → q < w1.heap.size from fun q hq => (hoi.lt q hq).2)
          clear hG hX hn hvi hblk
          go_wp2
          go_loopw [7, 8] (fun g kv wr => ∃ t : Nat, t ≤ 17 ∧ kv = .int .i64 t ∧ wr.ownsRow base 21 1 g (n + t) ((X ++ List.replicate t (-500000000 - (i : Int))).map (Value.int .i32)) ∧ w1.grownBy wr (Value.slice ai n ci).ownBlock ∧ (∀ q, g.ownBlock = some q → (Value.slice ai n ci).ownBlock = some q ∨ w1.heap.size ≤ q) ∧ Row .i32 wr ai n ci X) (fun _ kv _ => 17 - (intOf kv).toNat)
          case atStart => exact ⟨0, Nat.zero_le _, rfl, by simpa using hoi, World.grownBy.refl _ _, fun q hq => .inl hq, hri⟩
          case round =>
            obtain ⟨t, ht, rfl, hog, hgr, hbq, hrr⟩ := hrel
            by_cases htl : t < 17
            · have ti : (t : Int) < 17 := by omega
              have hcel := cellv wr (.int .i32 (-500000000 - (i : Int))) 21
              have hal : Below wr.heap.size wr (wr.alloc (.cells #[.int .i32 (-500000000 - (i : Int))] 21)) := (Below.refl _ _).alloc (Nat.le_refl _) _
              have hXl : X.length = n := (unhide Hn).symm
              have HXl := hide hXl
              have hszr := hgr.size
              have Hgr := hide hgr
              have Hbq := hide hbq
              have Hrr := hide hrr
              have Hal := hide hal
              rcases hog.2 with ⟨rfl, hnt⟩ | ⟨q, cap, cur, rfl, hgb, _, hncap, _⟩
              · have en : n = 0 := by omega
                have et : t = 0 := by omega
                subst en
                subst et
                have eX : X = [] := List.eq_nil_of_length_eq_zero hXl
                have HeX := hide eX
                clear hgr hbq hrr hal hXl eX hog hoi hri
                go_wp2_with (at_builtin; refine wpList_append_grows _ rfl (.tmp 50) (.tmp 54) 22 rfl 21 i0 (.int .i32 0) 1 4 Try.underlying22 hi0 hz0 hz1 hz2 rfl (by decide) none 0 0 [] rfl (fun _ => ⟨rfl, rfl⟩) rfl (fun b e => by cases e) ⟨wr.heap.size, 0, none⟩ 1 1 [.int .i32 (-500000000 - (i : Int))] rfl rfl hcel (one_val _ rfl) (by omega) (by unfold maxLen; omega) (by omega) ?_; intro v3 w3 hog3 hgr3)
                go_roundw
                case rel =>
                  refine ⟨0 + 1, by omega, by go_num, ?_, grown_more' (grown_more' (unhide Hgr) (World.grownBy_alloc wr _ none) (fun q hq => by cases hq)) hgr3 (fun q hq => by cases hq), fun q hq => .inr ?_, (unhide Hrr).below ((unhide Hal).trans ((belowNone hgr3).mono (unhide Hal).size))⟩
                  · rw [rep_snoc, unhide HeX]
                    exact own_lo hog3 (by simp; omega)
                  · have := (block_of_own hog3 hq).1
                    simp at this
                    omega
                case measure => simp [intOf]
              · have hro := row_at hog
                have Hcells := hide (hro.below hal).cells
                have holen : ((X ++ List.replicate t (-500000000 - (i : Int))).map (Value.int .i32)).length = (n + t) * 1 := by simp [hXl]
                have Hlen := hide holen
                have hogA := hog.alloc (.cells #[.int .i32 (-500000000 - (i : Int))] 21)
                have HogA := hide hogA
                have Hql := hide (own_lt hog)
                clear hgr hbq hrr hal hXl hoi hri hro holen hogA
                by_cases hroom : n + t + 1 ≤ cap
                · clear hog
                  go_wp2_with (at_builtin; refine wpList_append_fits _ rfl (.tmp 50) (.tmp 54) 22 rfl base 21 i0 1 Try.underlying22 hi0 hz1 q (n + t) cap _ rfl (unhide HogA) ⟨wr.heap.size, 0, none⟩ 1 1 [.int .i32 (-500000000 - (i : Int))] rfl rfl hcel (one_val _ rfl) hroom ?_; intro w3 hog3 hgr3)
                  go_roundw
                  case rel =>
                    refine ⟨t + 1, by omega, by go_num, by rw [rep_snoc]; exact hog3, grown_more' (grown_more' (unhide Hgr) (World.grownBy_alloc wr _ none) (fun q hq => by cases hq)) hgr3 (fun q' hq' => unhide Hbq q' hq'), fun q' hq' => unhide Hbq q' hq', ?_⟩
                    by_cases hqv : (Value.slice ai n ci).ownBlock = some q
                    · have ea := unhide Hblk q hqv
                      subst ea
                      rw [← rep_snoc] at hog3
                      have hr3 := (row_at hog3 : Row .i32 w3 (some ⟨q, 0, none⟩) (n + (t + 1)) cap (X ++ List.replicate (t + 1) (-500000000 - (i : Int)))).head (unhide HXl)
                      exact hr3.recap hle (fun e => by cases e)
                    · refine (unhide Hrr).kept (Nat.le_trans (unhide Hal).size hgr3.size) (fun q' hq' => ?_)
                      have hlt' : q' < wr.heap.size := by
                        have := unhide Hblk q' hq'
                        subst this
                        rcases (unhide Hrr).at_ with h0 | ⟨b, off', e, hb', _⟩
                        · exact Nat.lt_of_lt_of_le ((unhide Hw1lt) q' hq') hszr
                        · simp only [Option.some.injEq, Addr.mk.injEq] at e
                          rw [e.1]; exact hb'
                      exact (hgr3.block q' (by simp; omega) (fun e => hqv (by rw [hq', e]))).trans ((unhide Hal).block q' hlt')
                  case measure => simp [intOf]; omega
                · have hfull : cap < n + t + 1 := by omega
                  clear hog
                  go_wp2_with (at_builtin; refine wpList_append_grows _ rfl (.tmp 50) (.tmp 54) 22 rfl 21 i0 (.int .i32 0) 1 4 Try.underlying22 hi0 hz0 hz1 hz2 rfl (by decide) (some ⟨q, 0, none⟩) (n + t) cap _ rfl (fun e => by cases e) (unhide Hlen) (unhide Hcells) ⟨wr.heap.size, 0, none⟩ 1 1 [.int .i32 (-500000000 - (i : Int))] rfl rfl hcel (one_val _ rfl) hfull (by unfold maxLen; omega) (by omega) ?_; intro v3 w3 hog3 hgr3)
                  go_roundw
                  case rel =>
                    refine ⟨t + 1, by omega, by go_num, ?_, grown_more' (grown_more' (unhide Hgr) (World.grownBy_alloc wr _ none) (fun q hq => by cases hq)) hgr3 (fun q hq => by cases hq), fun q hq => .inr ?_, (unhide Hrr).below ((unhide Hal).trans ((belowNone hgr3).mono (unhide Hal).size))⟩
                    · rw [rep_snoc]
                      exact own_lo hog3 (by simp; omega)
                    · have := (block_of_own hog3 hq).1
                      simp at this
                      omega
                  case measure => simp [intOf]; omega
            · have ti : ¬ (t : Int) < 17 := by omega
              have et : t = 17 := by omega
              subst et
              have hvi := unhide Hvi
              have hg' : w1.grownBy wr (vs i).ownBlock := by rw [hvi, ← unhide HX, ← unhide Hn]; exact hgr
              have hout := (unhide HG).out_at hlt hg'
              have Hrest := hide (show _ ∧ _ ∧ _ ∧ _ from ⟨hg', hrr, hog, hbq⟩)
              have hszr := hgr.size
              have hsz2 := (unhide HG).size
              obtain ⟨gq, gc, rfl⟩ : ∃ a c, u7 = .slice a (n + 17) c := by
                rcases hog.2 with ⟨_, h0⟩ | ⟨g, cap, cur, hv, _⟩
                · omega
                · exact ⟨_, _, hv⟩
              have Hlt := hide hout.lt
              clear hg' hrr hog hbq hgr hoi hri hvi
              go_wp2_with (at_builtin; refine wpList_append_own _ rfl (.tmp 56) (.tmp 58) 25 rfl w2.heap.size 22 j0 (.slice none 0 0) 1 24 Try.underlying25 hj0 hy0 hy1 hy2 rfl (by decide) _ _ _ rfl (hout.alloc _) ⟨wr.heap.size, 0, none⟩ 1 1 [.slice gq (n + 17) gc] rfl rfl (cellv _ _ _) (one_val _ rfl) (by unfold maxLen; omega) (by omega) (by simp; omega) ?_; intro v4 w4 hap hgr4 _)
              go_roundw
              case rel =>
                obtain ⟨hg', hrr, hog, hbq⟩ := unhide Hrest
                have e1 : n = (M i).length := by rw [unhide Hn, unhide HX]
                have hstep := (unhide HG).step (u := .slice gq (n + 17) gc) hlt (unhide HD) hg' ⟨ai, ci, unhide Hvi, by rw [← e1, ← unhide HX]; exact hrr⟩ (by rw [← e1, ← unhide HX]; exact hog) (fun q hq => by rw [unhide Hvi, ← e1]; exact hbq q hq) hap hgr4
                refine ⟨i + 1, _, by omega, by go_num, hstep, ?_⟩
                have B1 : Below base w wr := hB.grown hg' (by omega) (fun k hk => (block_of_own ((unhide HG).own i (Nat.le_refl _) hlt) hk).1)
                exact (B1.alloc (by omega) _).grown hgr4 (by simp; omega) (fun k hk => by have := (unhide Hlt k hk).1; omega)
              case measure => simp [intOf]; omega
        · have ii : ¬ (i : Int) < (m : Int) := by omega
          have ei : i = m := by omega
          obtain ⟨w3, hw3⟩ : ∃ w3, w3 = wr := ⟨_, rfl⟩
          subst hw3
          rw [ei] at hG
          have HG := hide hG
          have hout := hG.out
          obtain ⟨va, vc, hv, _⟩ : ∃ a c, u3 = .slice a m c ∧ True := by
            rcases hout.2 with ⟨e, h0⟩ | ⟨g, cap, cur, e, _⟩
            · exact ⟨none, 0, by rw [e, h0], trivial⟩
            · exact ⟨_, _, e, trivial⟩
          subst hv
          have Hout := hide hout
          clear hG hout HD ei hi
          go_wp2
          clear ii hlt
          go_loopw [9] (fun iv wr => ∃ i : Nat, i ≤ m ∧ iv = .int .i64 i ∧ Below w3.heap.size w3 wr) (fun iv _ => m - (intOf iv).toNat)
          case atStart => exact ⟨0, Nat.zero_le _, rfl, Below.refl _ _⟩
          case round =>
            obtain ⟨i, hi, rfl, hB4⟩ := hrel
            by_cases hlt : i < m
            · have ii : (i : Int) < (m : Int) := by omega
              have hG := unhide HG
              have hgi := hG.grw i hlt
              obtain ⟨ai, ci, hvi, hri⟩ := hG.row i hlt
              have hcl := hG.cell i hlt
              rw [hvi] at hcl
              have hLlt : L < w3.heap.size := Nat.lt_of_lt_of_le hG.llt hG.size
              obtain ⟨Gb, rfl⟩ : ∃ Gb, va = some ⟨Gb, 0, none⟩ := by
                rcases (unhide Hout).2 with ⟨_, h0⟩ | ⟨g, cap, cur, e, _⟩
                · omega
                · simp only [Value.slice.injEq] at e
                  exact ⟨g, e.1⟩
              have hGlt := (own_lt (unhide Hout)).2
              have hcg : w3.cell? ⟨Gb, i, none⟩ = some (G i) := by
                rw [(unhide Hout).cellAt i (by omega)]
                simp [hlt]
              obtain ⟨gq, gc, hgv⟩ : ∃ q c, G i = .slice (some ⟨q, 0, none⟩) ((M i).length + 17) c := by
                rcases hgi.2 with ⟨_, h0⟩ | ⟨g, cap, cur, e, _⟩
                · omega
                · exact ⟨_, _, e⟩
              rw [hgv] at hgi hcg
              have hrg := row_at hgi
              have hgl := (own_lt hgi).2
              have hMi := unhide HMr i
              have hNi := hN i
              obtain ⟨n, hn⟩ : ∃ n, n = (ls i).length := ⟨_, rfl⟩
              rw [← hn] at hMi hNi
              have hMl : (M i).length = n := by rw [hMi]; simp
              rw [hMl] at hcl hcg hri hrg hgi
              rw [hMi] at hri hrg
              have HR := hide hri
              have HC := hide (show ∀ k, k < n + 17 → w3.cell? ⟨gq, k, none⟩ = some (.int .i32 (if k < n then -1000 - (i : Int) else -500000000 - (i : Int))) from fun k hk => by
                rcases hrg.at_ with h0 | ⟨b, off', e, _, hc⟩
                · omega
                · simp only [Option.some.injEq, Addr.mk.injEq, and_true] at e
                  obtain ⟨rfl, rfl⟩ := e
                  have := hc k hk
                  rw [Nat.zero_add] at this
                  rw [this, rep_get _ _ _ _ _ hk])
              have HR2 := hide (show ∀ k, k < n → ∃ b o', ai = some ⟨b, o', none⟩ ∧ b < w3.heap.size ∧ w3.cell? ⟨b, o' + k, none⟩ = some (.int .i32 (-1000 - (i : Int))) from fun k hk => by
                rcases hri.at_ with h0 | ⟨b, off', e, hb', hc⟩
                · omega
                · exact ⟨b, off', e, hb', by rw [hc k hk]; simp [List.getD, hk]⟩)
              clear hG hgi hvi hgv hrg hMi hMl hn hri HR HG Hout HM HMr
              go_wp2
              go_loopw [10] (fun kv wr => ∃ k : Nat, k ≤ n + 17 ∧ kv = .int .i64 k ∧ Below w3.heap.size w3 wr) (fun kv _ => n + 17 - (intOf kv).toNat)
              case atStart => exact ⟨0, Nat.zero_le _, rfl, hB4⟩
              case round =>
                obtain ⟨k, hk, rfl, hB5⟩ := hrel
                clear hB4
                have d1 := (hB5.cell (p := ⟨L, off + i, none⟩) hLlt).trans hcl
                have d2 := (hB5.cell (p := ⟨Gb, i, none⟩) hGlt).trans hcg
                by_cases hkl : k < n + 17
                · have d3 := (hB5.cell (p := ⟨gq, k, none⟩) hgl).trans (unhide HC k hkl)
                  have kl : (k : Int) < (n : Int) + 17 := by omega
                  by_cases hkn : k < n
                  · rw [if_pos hkn] at d3
                    obtain ⟨b, o', rfl, hbl, d4⟩ := unhide HR2 k hkn
                    have d5 := (hB5.cell (p := ⟨b, o' + k, none⟩) hbl).trans d4
                    have kn : (k : Int) < (n : Int) := by omega
                    have kn2 : ¬ (n : Int) ≤ (k : Int) := by omega
                    have hx : ((-1000 - (i : Int)) != (-1000 - (i : Int))) = false := by simp
                    clear HC HR2 d4
                    go_wp2
                    go_roundw
                    case rel => exact ⟨k + 1, by omega, by go_num, hB5⟩
                    case measure => simp [intOf]; omega
                  · rw [if_neg hkn] at d3
                    have kn : ¬ (k : Int) < (n : Int) := by omega
                    have kn2 : (n : Int) ≤ (k : Int) := by omega
                    have hx : ((-500000000 - (i : Int)) != (-500000000 - (i : Int))) = false := by simp
                    clear HC HR2
                    go_wp2
                    go_roundw
                    case rel => exact ⟨k + 1, by omega, by go_num, hB5⟩
                    case measure => simp [intOf]; omega
                · have kl : ¬ (k : Int) < (n : Int) + 17 := by omega
                  clear HC HR2
                  go_wp2
                  go_roundw
                  case rel => exact ⟨i + 1, by omega, by go_num, hB5⟩
                  case measure => simp [intOf]; omega
            · have ii : ¬ (i : Int) < (m : Int) := by omega
              go_wp2
              go_ret
              exact ⟨rfl, hB.trans (hB4.mono (by have := hB.size; omega))⟩
end Go.Proofs.Ytidkdnlbecompac.mem
