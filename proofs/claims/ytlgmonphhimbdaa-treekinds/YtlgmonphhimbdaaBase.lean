import Derived.Test.YtlgmonphhimbdaaInts
import Derived.Deep.QuietTactic
import Derived.BigQuiet
import Derived.Outline
import Derived.WalkSmall
import Derived.Laws.BytesArg
import Derived.Laws.CopyOwn
import Derived.Maps.AppendAt
import Derived.ArgAppend
namespace Go.Proofs.Ytlgmonphhimbdaa.mem
open Go.ChangeShapes Go.WideShapes Go.ChangeAt Go.RowKit
open ints (hide unhide)
set_option linter.unusedVariables false

/-- What is known of a slice of integers that is only read: its elements. -/
structure Row (k : IntKind) (w : World) (a : Option Addr) (n cap : Nat) (zs : List Int) : Prop where
  len : zs.length = n
  le : n ≤ cap
  nil : a = none → cap = 0
  at_ : n = 0 ∨ ∃ b off, a = some ⟨b, off, none⟩ ∧ b < w.heap.size ∧ ∀ i, i < n → w.cell? ⟨b, off + i, none⟩ = some (.int k (zs.getD i 0))
theorem Row.below {k : IntKind} {w w' : World} {a : Option Addr} {n cap : Nat} {zs : List Int} (h : Row k w a n cap zs) (hb : Below w.heap.size w w') : Row k w' a n cap zs := by
  refine ⟨h.len, h.le, h.nil, ?_⟩
  rcases h.at_ with h0 | ⟨b, off, ha, hlt, hc⟩
  · exact .inl h0
  · exact .inr ⟨b, off, ha, Nat.lt_of_lt_of_le hlt hb.size, fun i hi => (hb.cell (by exact hlt)).trans (hc i hi)⟩
theorem below_drewN {B : Nat} {w wr : World} (h : Below B w wr) (n : Nat) : Below B w (wr.drewN n) := Go.below_drewN h n
theorem Row.cells {k : IntKind} {w : World} {a : Option Addr} {n cap : Nat} {zs : List Int} (h : Row k w a n cap zs) : ∀ ad, a = some ad → ∀ j u, (zs.map (Value.int k))[j]? = some u → w.cell? (ad.add j) = some u := by
  intro ad had j u hu
  have hj : j < n := by
    have := (List.getElem?_eq_some_iff.1 hu).1
    simpa [h.len] using this
  rcases h.at_ with h0 | ⟨b, off, rfl, _, hc⟩
  · omega
  · obtain rfl := Option.some.inj had
    rw [Addr.add_lit, hc j hj]
    have e : (zs.map (Value.int k))[j]? = some (.int k (zs.getD j 0)) := by
      simp [List.getD, show j < zs.length by rw [h.len]; exact hj]
    rw [e] at hu
    exact hu
theorem own_row {k : IntKind} {w : World} {base : Nat} {e : TypeId} {v : Value} {n : Nat} {zs : List Int} (h : w.ownsRow base e 1 v n (zs.map (Value.int k))) :
    ∃ a cap, v = .slice a n cap ∧ Row k w a n cap zs := by
  obtain ⟨h1, h2⟩ := h
  have hl : zs.length = n := by simpa using h1
  rcases h2 with ⟨rfl, rfl⟩ | ⟨g, cap, cur, rfl, hg, hh, hnc, hcm, hcs, hx⟩
  · exact ⟨none, 0, rfl, hl, Nat.le_refl _, fun _ => rfl, .inl rfl⟩
  · refine ⟨_, cap, rfl, hl, hnc, (fun h => by cases h), .inr ⟨g, 0, rfl, (by rcases Nat.lt_or_ge g w.heap.size with h | h; exact h; rw [Array.getElem?_eq_none h] at hh; cases hh), fun i hi => ?_⟩⟩
    rw [World.ownsRow.cellAt (base := base) (e := e) (size := 1) (n := n) (cap := cap) (xs := zs.map (Value.int k)) ⟨h1, .inr ⟨g, cap, cur, rfl, hg, hh, hnc, hcm, hcs, hx⟩⟩ _ (by omega)]
    simp [List.getD, show i < zs.length by omega]
theorem own_below {w w' : World} {base : Nat} {e : TypeId} {size : Nat} {v : Value} {n : Nat} {xs : List Value} (h : w.ownsRow base e size v n xs) (hb : Below w.heap.size w w') : w'.ownsRow base e size v n xs := by
  obtain ⟨h1, h2⟩ := h
  refine ⟨h1, ?_⟩
  rcases h2 with h2 | ⟨g, cap, cur, hv, hg, hh, r⟩
  · exact .inl h2
  · have hl : g < w.heap.size := by rcases Nat.lt_or_ge g w.heap.size with h | h; exact h; rw [Array.getElem?_eq_none h] at hh; cases hh
    exact .inr ⟨g, cap, cur, hv, hg, (hb.block g hl).trans hh, r⟩
theorem belowNone {w w' : World} (h : w.grownBy w' none) : Below w.heap.size w w' := (Below.refl _ _).grown h (Nat.le_refl _) (fun k hk => by cases hk)
theorem getD_ext {xs ys : List Int} (h : xs.length = ys.length) (e : ∀ j, j < xs.length → xs.getD j 0 = ys.getD j 0) : xs = ys := by
  refine List.ext_getElem h fun i h1 h2 => ?_
  have := e i h1
  simpa [List.getD_eq_getElem?_getD, h1, h2] using this
theorem row_string {P : Program} {w : World} {a : Option Addr} {n c : Nat} {zs : List Int} (h : Row .u8 w a n c zs) (src dst e : TypeId) (hs : P.underlying src = some (.slice e)) (he : P.underlying e = some (.int .u8)) (hd : P.underlying dst = some .string) :
    (convert src dst (.slice a n c)).run P w = .ok (.string (strOfNums zs)) w := by
  rcases h.at_ with h0 | ⟨b, off, rfl, hb, hc⟩
  · subst h0
    have hz : zs = [] := List.eq_nil_of_length_eq_zero h.len
    subst hz
    cases a with
    | none =>
      rw [run_convert_bytes_nil w src e hs he 0 c dst hd]
      rfl
    | some ad =>
      have hl : (loadCells ad 0).run P w = .ok (([] : List Int).map (Value.int .u8)).toArray w := by
        have := run_loadCells_list (P := P) w ad ([] : List Value) (fun j v hj => by simp at hj)
        simpa using this
      rw [run_convert_bytes_string w src dst e _ 0 c hs he hd, run_bytesToString w _ 0 c [] hl]
      rfl
  · exact run_convert_bytes_arg w src e hs he b off n c zs h.len hc dst hd
def Byt (l : List Int) : Prop := ∀ z ∈ l, 0 ≤ z ∧ z ≤ 255
theorem byt_getD {l : List Int} (h : Byt l) (i : Nat) : 0 ≤ l.getD i 0 ∧ l.getD i 0 ≤ 255 := by
  by_cases hi : i < l.length
  · have := h (l.getD i 0) (by simp [List.getD, hi])
    exact this
  · simp [List.getD, List.getElem?_eq_none (show l.length ≤ i by omega)]
def bytesZ (s : ByteArray) : List Int := s.data.toList.map fun b => (b.toNat : Int)
theorem bytesZ_len (s : ByteArray) : (bytesZ s).length = s.size := by unfold bytesZ; rw [List.length_map, Array.length_toList]; rfl
theorem bytesZ_byt (s : ByteArray) : Byt (bytesZ s) := by
  intro z hz
  obtain ⟨b, _, rfl⟩ := List.mem_map.1 hz
  have := b.toNat_lt
  omega
theorem bytesZ_str (zs : List Int) (h : Byt zs) : bytesZ (strOfNums zs) = zs := by
  unfold bytesZ
  rw [strOfNums_data, List.map_map]
  conv => rhs; rw [← List.map_id zs]
  apply List.map_congr_left
  intro z hz
  have := h z hz
  simp
  omega
theorem bytesZ_get (s : ByteArray) (i : Nat) : (bytesZ s).getD i 0 = ((s.get! i).toNat : Int) := by
  unfold bytesZ
  have e : s.get! i = s.data[i]! := rfl
  rw [e]
  by_cases h : i < s.data.size
  · rw [getElem!_pos s.data i h]
    simp [List.getD, Array.getElem?_eq_getElem h]
  · rw [getElem!_neg s.data i h]
    simp [List.getD, Array.getElem?_eq_none (Nat.le_of_not_lt h)]
    rfl
theorem drop_getD (l : List Int) (p k : Nat) : (l.drop p).getD k 0 = l.getD (p + k) 0 := by simp [List.getD]
theorem splice_all {α : Type} (L cs : List α) (h : L.length = cs.length) : splice L 0 cs = cs := by
  unfold splice
  rw [Nat.zero_add, List.drop_eq_nil_of_le (by omega)]
  simp
theorem own_block {w : World} {base g n cap : Nat} {e : TypeId} {xs : List Value} (h : w.ownsRow base e 1 (.slice (some ⟨g, 0, none⟩) n cap) n xs) : ∃ cur : Array Value, w.heap[g]? = some (.cells cur.toList.toArray e (0, 0)) ∧ cur.size = cap := by
  rcases h.2 with ⟨h2, _⟩ | ⟨g', cap', cur, hv, hg, hh, hnc, hcm, hcs, hx⟩
  · cases h2
  · simp only [Value.slice.injEq, Option.some.injEq, Addr.mk.injEq] at hv
    obtain ⟨⟨rfl, _, _⟩, _, rfl⟩ := hv
    exact ⟨cur, by simpa using hh, by simpa using hcs⟩
theorem row_some {k : IntKind} {w : World} {a : Option Addr} {n cap : Nat} {zs : List Int} (h : Row k w a n cap zs) (hn : 0 < n) : ∃ ad, a = some ad ∧ ∀ j u, (zs.map (Value.int k))[j]? = some u → w.cell? (ad.add j) = some u := by
  rcases h.at_ with h0 | ⟨b, off, rfl, _, _⟩
  · omega
  · exact ⟨_, rfl, h.cells _ rfl⟩
theorem own_lo {w : World} {base base' : Nat} {e : TypeId} {size : Nat} {v : Value} {n : Nat} {xs : List Value} (h : w.ownsRow base e size v n xs) (hb : base' ≤ base) : w.ownsRow base' e size v n xs :=
  ⟨h.1, h.2.imp id (fun ⟨g', r1, r2, r3, r4, r5⟩ => ⟨g', r1, r2, r3, Nat.le_trans hb r4, r5⟩)⟩
theorem Row.head {k : IntKind} {w : World} {a : Option Addr} {n m c : Nat} {l r : List Int} (h : Row k w a (n + m) c (l ++ r)) (hl : l.length = n) : Row k w a n c l := by
  refine ⟨hl, by have := h.le; omega, h.nil, ?_⟩
  rcases h.at_ with h0 | ⟨b, off, ha, hb, hc⟩
  · exact .inl (by omega)
  · refine .inr ⟨b, off, ha, hb, fun i hi => ?_⟩
    rw [hc i (by omega)]
    simp [List.getD, List.getElem?_append_left (show i < l.length by omega)]
theorem own_block_eq {w w' : World} {base : Nat} {e : TypeId} {size g n cap : Nat} {xs : List Value} (h : w.ownsRow base e size (.slice (some ⟨g, 0, none⟩) n cap) n xs) (hb : w'.heap[g]? = w.heap[g]?) : w'.ownsRow base e size (.slice (some ⟨g, 0, none⟩) n cap) n xs := by
  refine ⟨h.1, ?_⟩
  rcases h.2 with ⟨h', _⟩ | ⟨g', cap', cur, h', r1, r2, r3⟩
  · simp at h'
  · have h2 := h'
    simp only [Value.slice.injEq, Option.some.injEq, Addr.mk.injEq, and_true, true_and] at h2
    obtain ⟨rfl, rfl⟩ := h2
    exact .inr ⟨g, cap, cur, rfl, r1, hb.trans r2, r3⟩
theorem own_lt {w : World} {base : Nat} {e : TypeId} {size g n cap : Nat} {xs : List Value} (h : w.ownsRow base e size (.slice (some ⟨g, 0, none⟩) n cap) n xs) : base ≤ g ∧ g < w.heap.size := h.lt g rfl
theorem own_type {w : World} {base : Nat} {e : TypeId} {size g n cap : Nat} {xs : List Value} (h : w.ownsRow base e size (.slice (some ⟨g, 0, none⟩) n cap) n xs) : ∃ cur, w.heap[g]? = some (.cells cur e (0, 0)) := by
  rcases h.2 with ⟨h', _⟩ | ⟨g', cap', cur, h', r1, r2, r3⟩
  · simp at h'
  · simp only [Value.slice.injEq, Option.some.injEq, Addr.mk.injEq, and_true, true_and] at h'
    obtain ⟨rfl, rfl⟩ := h'
    exact ⟨cur, r2⟩
theorem own_ne {w : World} {base base' : Nat} {e e' : TypeId} {size size' g g' n n' cap cap' : Nat} {xs xs' : List Value} (h : w.ownsRow base e size (.slice (some ⟨g, 0, none⟩) n cap) n xs) (h' : w.ownsRow base' e' size' (.slice (some ⟨g', 0, none⟩) n' cap') n' xs') (he : e ≠ e') : g ≠ g' := by
  intro hg
  subst hg
  obtain ⟨c1, h1⟩ := own_type h
  obtain ⟨c2, h2⟩ := own_type h'
  rw [h1] at h2
  simp at h2
  exact he h2.2
/-- One step more of what leaves all old blocks but A as they were. -/
theorem grown_more {w wr w' : World} {A : Nat} {r : Option Nat} (h : w.grownBy wr (some A)) (k : wr.grownBy w' r) (hr : ∀ q, r = some q → q = A ∨ w.heap.size ≤ q) : w.grownBy w' (some A) :=
  ⟨k.os.trans h.os, k.tape.trans h.tape, k.output.trans h.output, Nat.le_trans h.size k.size, fun i hi hne => (k.block i (Nat.lt_of_lt_of_le hi h.size) (fun e => by
    rcases hr i e.symm with e2 | e2
    · exact hne (by rw [e2])
    · omega)).trans (h.block i hi hne)⟩
theorem grown_below {w wr w' : World} {A B : Nat} (hb : Below B w wr) (h : wr.grownBy w' (some A)) (hA : B ≤ A) (hB : B ≤ wr.heap.size) : Below B w w' :=
  hb.grown h hB (fun k hk => by obtain rfl := Option.some.inj hk; exact hA)
def setTo (l : List Int) (x : Int) (k : Nat) : List Int := List.replicate k x ++ l.drop k
theorem setTo_zero (l : List Int) (x : Int) : setTo l x 0 = l := by simp [setTo]
theorem setTo_len (l : List Int) (x : Int) (k : Nat) (h : k ≤ l.length) : (setTo l x k).length = l.length := by simp [setTo]; omega
theorem setTo_set (l : List Int) (x : Int) (k : Nat) (h : k < l.length) : (setTo l x k).set k x = setTo l x (k + 1) := by
  unfold setTo
  rw [List.set_append_right _ _ (by simp), List.length_replicate, Nat.sub_self, List.drop_eq_getElem_cons h, List.set_cons_zero, List.replicate_succ']
  simp
theorem setTo_all (l r : List Int) (x : Int) (n : Nat) (h : l.length = n) : setTo (l ++ r) x n = List.replicate n x ++ r := by
  unfold setTo
  rw [List.drop_append_of_le_length (by omega), List.drop_eq_nil_of_le (by omega), List.nil_append]
theorem setTo_full (l : List Int) (x : Int) (n : Nat) (h : l.length = n) : setTo l x n = List.replicate n x := by
  have := setTo_all l [] x n h
  simpa using this
theorem map_set_int (k : IntKind) (l : List Int) (j : Nat) (x : Int) : (l.map (Value.int k)).set j (.int k x) = (l.set j x).map (Value.int k) := by
  rw [List.map_set]
theorem row_lit (k : IntKind) (e : TypeId) (fr : Nat × Nat) (W : World) (zs : List Int) : Row k (W.alloc (.cells (zs.map (Value.int k)).toArray e fr)) (some ⟨W.heap.size, 0, none⟩) zs.length zs.length zs := by
  refine ⟨rfl, Nat.le_refl _, (fun h => by cases h), .inr ⟨W.heap.size, 0, rfl, by simp, fun i hi => ?_⟩⟩
  rw [World.cell?_alloc_mark]
  simp [List.getD, hi]
end Go.Proofs.Ytlgmonphhimbdaa.mem
