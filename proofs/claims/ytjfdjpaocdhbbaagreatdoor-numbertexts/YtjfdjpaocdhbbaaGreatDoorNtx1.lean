import Derived.Test.YtjfdjpaocdhbbaaGreatDoorNbk11
import Derived.Deep.QuietTactic
import Derived.BigQuiet
import Derived.Outline
import Derived.WalkSmall
import Derived.Laws.BytesArg
import Derived.Laws.CopyOwn
import Derived.Maps.AppendAt
import Derived.ArgAppend
import Derived.Laws.AppendOwnNone
namespace Go.Proofs.YtjfdjpaocdhbbaaGreatDoor.mem
open Go.ChangeShapes Go.WideShapes Go.ChangeAt Go.RowKit
open ints (hide unhide)
set_option linter.unusedVariables false
def Byt (l : List Int) : Prop := ∀ z ∈ l, 0 ≤ z ∧ z ≤ 255
theorem byt_getD {l : List Int} (h : Byt l) (i : Nat) : 0 ≤ l.getD i 0 ∧ l.getD i 0 ≤ 255 := by
  by_cases hi : i < l.length
  · have := h (l.getD i 0) (by simp [List.getD, hi])
    exact this
  · simp [List.getD, List.getElem?_eq_none (show l.length ≤ i by omega)]
def bytesZ (s : ByteArray) : List Int := s.data.toList.map fun b => (b.toNat : Int)
theorem bytesZ_len (s : ByteArray) : (bytesZ s).length = s.size := by unfold bytesZ; rw [List.length_map, Array.length_toList]; rfl
theorem bytesZ_byt (s : ByteArray) : Byt (bytesZ s) := by
  intro z hz
  obtain ⟨b, _, rfl⟩ := List.mem_map.1 hz
  have := b.toNat_lt
  omega
theorem bytesZ_str (zs : List Int) (h : Byt zs) : bytesZ (strOfNums zs) = zs := by
  unfold bytesZ
  rw [strOfNums_data, List.map_map]
  conv => rhs; rw [← List.map_id zs]
  apply List.map_congr_left
  intro z hz
  have := h z hz
  simp
  omega
theorem bytesZ_get (s : ByteArray) (i : Nat) : (bytesZ s).getD i 0 = ((s.get! i).toNat : Int) := by
  unfold bytesZ
  have e : s.get! i = s.data[i]! := rfl
  rw [e]
  by_cases h : i < s.data.size
  · rw [getElem!_pos s.data i h]
    simp [List.getD, Array.getElem?_eq_getElem h]
  · rw [getElem!_neg s.data i h]
    simp [List.getD, Array.getElem?_eq_none (Nat.le_of_not_lt h)]
    rfl
theorem drop_getD (l : List Int) (p k : Nat) : (l.drop p).getD k 0 = l.getD (p + k) 0 := by simp [List.getD]
theorem splice_all {α : Type} (L cs : List α) (h : L.length = cs.length) : splice L 0 cs = cs := by
  unfold splice
  rw [Nat.zero_add, List.drop_eq_nil_of_le (by omega)]
  simp
theorem own_block {w : World} {base g n cap : Nat} {e : TypeId} {xs : List Value} (h : w.ownsRow base e 1 (.slice (some ⟨g, 0, none⟩) n cap) n xs) : ∃ cur : Array Value, w.heap[g]? = some (.cells cur.toList.toArray e (0, 0)) ∧ cur.size = cap := by
  rcases h.2 with ⟨h2, _⟩ | ⟨g', cap', cur, hv, hg, hh, hnc, hcm, hcs, hx⟩
  · cases h2
  · simp only [Value.slice.injEq, Option.some.injEq, Addr.mk.injEq] at hv
    obtain ⟨⟨rfl, _, _⟩, _, rfl⟩ := hv
    exact ⟨cur, by simpa using hh, by simpa using hcs⟩
theorem row_some {k : IntKind} {w : World} {a : Option Addr} {n cap : Nat} {zs : List Int} (h : Row k w a n cap zs) (hn : 0 < n) : ∃ ad, a = some ad ∧ ∀ j u, (zs.map (Value.int k))[j]? = some u → w.cell? (ad.add j) = some u := by
  rcases h.at_ with h0 | ⟨b, off, rfl, _, _⟩
  · omega
  · exact ⟨_, rfl, h.cells _ rfl⟩
theorem own_lo {w : World} {base base' : Nat} {e : TypeId} {size : Nat} {v : Value} {n : Nat} {xs : List Value} (h : w.ownsRow base e size v n xs) (hb : base' ≤ base) : w.ownsRow base' e size v n xs :=
  ⟨h.1, h.2.imp id (fun ⟨g', r1, r2, r3, r4, r5⟩ => ⟨g', r1, r2, r3, Nat.le_trans hb r4, r5⟩)⟩
theorem Row.head {k : IntKind} {w : World} {a : Option Addr} {n m c : Nat} {l r : List Int} (h : Row k w a (n + m) c (l ++ r)) (hl : l.length = n) : Row k w a n c l := by
  refine ⟨hl, by have := h.le; omega, h.nil, ?_⟩
  rcases h.at_ with h0 | ⟨b, off, ha, hb, hc⟩
  · exact .inl (by omega)
  · refine .inr ⟨b, off, ha, hb, fun i hi => ?_⟩
    rw [hc i (by omega)]
    simp [List.getD, List.getElem?_append_left (show i < l.length by omega)]
theorem own_block_eq {w w' : World} {base : Nat} {e : TypeId} {size g n cap : Nat} {xs : List Value} (h : w.ownsRow base e size (.slice (some ⟨g, 0, none⟩) n cap) n xs) (hb : w'.heap[g]? = w.heap[g]?) : w'.ownsRow base e size (.slice (some ⟨g, 0, none⟩) n cap) n xs := by
  refine ⟨h.1, ?_⟩
  rcases h.2 with ⟨h', _⟩ | ⟨g', cap', cur, h', r1, r2, r3⟩
  · simp at h'
  · have h2 := h'
    simp only [Value.slice.injEq, Option.some.injEq, Addr.mk.injEq, and_true, true_and] at h2
    obtain ⟨rfl, rfl⟩ := h2
    exact .inr ⟨g, cap, cur, rfl, r1, hb.trans r2, r3⟩
theorem own_lt {w : World} {base : Nat} {e : TypeId} {size g n cap : Nat} {xs : List Value} (h : w.ownsRow base e size (.slice (some ⟨g, 0, none⟩) n cap) n xs) : base ≤ g ∧ g < w.heap.size := h.lt g rfl
theorem own_type {w : World} {base : Nat} {e : TypeId} {size g n cap : Nat} {xs : List Value} (h : w.ownsRow base e size (.slice (some ⟨g, 0, none⟩) n cap) n xs) : ∃ cur, w.heap[g]? = some (.cells cur e (0, 0)) := by
  rcases h.2 with ⟨h', _⟩ | ⟨g', cap', cur, h', r1, r2, r3⟩
  · simp at h'
  · simp only [Value.slice.injEq, Option.some.injEq, Addr.mk.injEq, and_true, true_and] at h'
    obtain ⟨rfl, rfl⟩ := h'
    exact ⟨cur, r2⟩
theorem own_ne {w : World} {base base' : Nat} {e e' : TypeId} {size size' g g' n n' cap cap' : Nat} {xs xs' : List Value} (h : w.ownsRow base e size (.slice (some ⟨g, 0, none⟩) n cap) n xs) (h' : w.ownsRow base' e' size' (.slice (some ⟨g', 0, none⟩) n' cap') n' xs') (he : e ≠ e') : g ≠ g' := by
  intro hg
  subst hg
  obtain ⟨c1, h1⟩ := own_type h
  obtain ⟨c2, h2⟩ := own_type h'
  rw [h1] at h2
  simp at h2
  exact he h2.2
/-- One step more of what leaves all old blocks but A as they were. -/
theorem grown_more {w wr w' : World} {A : Nat} {r : Option Nat} (h : w.grownBy wr (some A)) (k : wr.grownBy w' r) (hr : ∀ q, r = some q → q = A ∨ w.heap.size ≤ q) : w.grownBy w' (some A) :=
  ⟨k.os.trans h.os, k.tape.trans h.tape, k.output.trans h.output, Nat.le_trans h.size k.size, fun i hi hne => (k.block i (Nat.lt_of_lt_of_le hi h.size) (fun e => by
    rcases hr i e.symm with e2 | e2
    · exact hne (by rw [e2])
    · omega)).trans (h.block i hi hne)⟩
theorem grown_below {w wr w' : World} {A B : Nat} (hb : Below B w wr) (h : wr.grownBy w' (some A)) (hA : B ≤ A) (hB : B ≤ wr.heap.size) : Below B w w' :=
  hb.grown h hB (fun k hk => by obtain rfl := Option.some.inj hk; exact hA)
def setTo (l : List Int) (x : Int) (k : Nat) : List Int := List.replicate k x ++ l.drop k
theorem setTo_zero (l : List Int) (x : Int) : setTo l x 0 = l := by simp [setTo]
theorem setTo_len (l : List Int) (x : Int) (k : Nat) (h : k ≤ l.length) : (setTo l x k).length = l.length := by simp [setTo]; omega
theorem setTo_set (l : List Int) (x : Int) (k : Nat) (h : k < l.length) : (setTo l x k).set k x = setTo l x (k + 1) := by
  unfold setTo
  rw [List.set_append_right _ _ (by simp), List.length_replicate, Nat.sub_self, List.drop_eq_getElem_cons h, List.set_cons_zero, List.replicate_succ']
  simp
theorem setTo_all (l r : List Int) (x : Int) (n : Nat) (h : l.length = n) : setTo (l ++ r) x n = List.replicate n x ++ r := by
  unfold setTo
  rw [List.drop_append_of_le_length (by omega), List.drop_eq_nil_of_le (by omega), List.nil_append]
theorem setTo_full (l : List Int) (x : Int) (n : Nat) (h : l.length = n) : setTo l x n = List.replicate n x := by
  have := setTo_all l [] x n h
  simpa using this
theorem map_set_int (k : IntKind) (l : List Int) (j : Nat) (x : Int) : (l.map (Value.int k)).set j (.int k x) = (l.set j x).map (Value.int k) := by
  rw [List.map_set]
theorem row_lit (k : IntKind) (e : TypeId) (fr : Nat × Nat) (W : World) (zs : List Int) : Row k (W.alloc (.cells (zs.map (Value.int k)).toArray e fr)) (some ⟨W.heap.size, 0, none⟩) zs.length zs.length zs := by
  refine ⟨rfl, Nat.le_refl _, (fun h => by cases h), .inr ⟨W.heap.size, 0, rfl, by simp, fun i hi => ?_⟩⟩
  rw [World.cell?_alloc_mark]
  simp [List.getD, hi]
theorem one_val (v : Value) (h : v.oneCell' = true) : ∀ u ∈ [v], u.oneCell' = true := by intro u hu; simp at hu; subst hu; exact h
theorem cellv (w : World) (x : Value) (t : TypeId) : ∀ j u, [x][j]? = some u → (w.alloc (.cells #[x] t)).cell? ((⟨w.heap.size, 0, none⟩ : Addr).add j) = some u := by
  intro j u hj
  match j, hj with
  | 0, hj => simp at hj; subst hj; simp [Addr.add]
  | (j + 1), hj => simp at hj
theorem rowZ {k : IntKind} {w : World} {a : Option Addr} {n c : Nat} (h : n = 0) (hn : a = none → c = 0) : Row k w a n c [] := ⟨by simp [h], by omega, hn, .inl h⟩
theorem getD_mem0 {zs : List Int} {k : Nat} (h : k < zs.length) : zs.getD k 0 ∈ zs := by
  rw [List.getD_eq_getElem?_getD, List.getElem?_eq_getElem h]
  exact List.getElem_mem h
theorem take_snoc {zs : List Int} {k : Nat} (h : k < zs.length) : zs.take (k + 1) = zs.take k ++ [zs.getD k 0] := by
  rw [List.take_add_one, List.getD_eq_getElem?_getD, List.getElem?_eq_getElem h]
  rfl
theorem bytesZ_at (s : ByteArray) (k : Nat) (h : k < s.size) : (bytesZ s).getD k 0 = ((s[k]'h).toNat : Int) := by
  unfold bytesZ
  rw [List.getD_eq_getElem?_getD, List.getElem?_map, Array.getElem?_toList, Array.getElem?_eq_getElem (show k < s.data.size from h)]
  rfl
theorem row_at {k : IntKind} {w : World} {base : Nat} {e : TypeId} {a : Option Addr} {n c : Nat} {zs : List Int} (h : w.ownsRow base e 1 (.slice a n c) n (zs.map (Value.int k))) : Row k w a n c zs := by
  obtain ⟨a', c', e', hr⟩ := own_row h
  simp only [Value.slice.injEq] at e'
  obtain ⟨rfl, _, rfl⟩ := e'
  exact hr
theorem own_some {w : World} {base : Nat} {e : TypeId} {v : Value} {n : Nat} {xs : List Value} (h : w.ownsRow base e 1 v n xs) (hn : 0 < n) : ∃ g cap, v = .slice (some ⟨g, 0, none⟩) n cap ∧ n ≤ cap ∧ base ≤ g ∧ g < w.heap.size ∧ cap ≤ maxLen := by
  obtain ⟨h1, h2⟩ := h
  rcases h2 with ⟨rfl, rfl⟩ | ⟨g, cap, cur, rfl, hg, hh, hnc, hcm, hcs, hx⟩
  · omega
  · exact ⟨g, cap, rfl, hnc, hg, (by rcases Nat.lt_or_ge g w.heap.size with h | h; exact h; rw [Array.getElem?_eq_none h] at hh; cases hh), hcm⟩
/-- append of a row that is read (nil or not) to a row of the call's own. -/
theorem wpList_append_row {P : Program} (w : World) {ops : Array Oper} {rest : List Oper} {o : Oper} {a : Act} {Q : Exit → Act → World → Prop} (hgd : o.guard = none) (s x : Operand) (t : TypeId)
    (ho : o.op = .call { callee := .builtin .append, args := #[s, x], argTypes := #[t, t] })
    (base : Nat) (e : TypeId) (i : TypeInfo) (k : IntKind) (bytes : Nat) (ht : P.underlying t = some (.slice e)) (hi : P.info? e = some i) (hz : i.zero = some (.int k 0))
    (hsize : i.size = 1) (hby : i.bytes = bytes)
    (v : Value) (n : Nat) (xs : List Value) (hs : a.eval s = v) (hown : w.ownsRow base e 1 v n xs)
    (ad : Option Addr) (m c : Nat) (zs : List Int) (hx : a.eval x = .slice ad m c) (hrow : Row k w ad m c zs)
    (h63 : n + m ≤ maxLen) (hbytes : (n + m) * bytes ≤ 140737488355328) (hbase : base ≤ w.heap.size)
    (h : ∀ v' w', w'.ownsRow base e 1 v' (n + m) (xs ++ zs.map (Value.int k)) → Below base w w' → wpList P ops Q rest (a.put o.dst v') w') :
    wpList P ops Q (o :: rest) a w := by
  cases ad with
  | none =>
    have hc := hrow.nil rfl
    have hm : m = 0 := by have := hrow.le; omega
    subst hc hm
    have hz0 : zs = [] := List.eq_nil_of_length_eq_zero hrow.len
    subst hz0
    exact wpList_append_own_none hgd s x t ho base e i 1 ht hi v n xs hs hown hx (h v w (by simpa using hown) (Below.refl _ _))
  | some ad =>
    refine wpList_append_own w hgd s x t ho base e i (.int k 0) 1 bytes ht hi hz hsize hby rfl (by decide) v n xs hs hown ad m c (zs.map (Value.int k)) hx (by simp [hrow.len]) (hrow.cells ad rfl) (ints_oneCell _ _) h63 hbytes hbase ?_
    intro v' w' ho' hg _
    exact h v' w' ho' ((Below.refl _ _).grown hg hbase (fun q hq => (hown.lt q hq).1))
/-- append of one value to a row of the call's own. -/
theorem wpList_append_one {P : Program} (w : World) {ops : Array Oper} {rest : List Oper} {o : Oper} {a : Act} {Q : Exit → Act → World → Prop} (hgd : o.guard = none) (s x : Operand) (t : TypeId)
    (ho : o.op = .call { callee := .builtin .append, args := #[s, x], argTypes := #[t, t] })
    (base : Nat) (e : TypeId) (i : TypeInfo) (k : IntKind) (bytes : Nat) (ht : P.underlying t = some (.slice e)) (hi : P.info? e = some i) (hz : i.zero = some (.int k 0))
    (hsize : i.size = 1) (hby : i.bytes = bytes)
    (v : Value) (n : Nat) (xs : List Value) (hs : a.eval s = v) (hown : w.ownsRow base e 1 v n xs) (u : Int)
    (hx : a.eval x = .slice (some ⟨w.heap.size, 0, none⟩) 1 1)
    (h63 : n + 1 ≤ maxLen) (hbytes : (n + 1) * bytes ≤ 140737488355328) (hbase : base ≤ w.heap.size)
    (h : ∀ v' w', w'.ownsRow base e 1 v' (n + 1) (xs ++ [.int k u]) → Below base w w' → wpList P ops Q rest (a.put o.dst v') w') :
    wpList P ops Q (o :: rest) a (w.alloc (.cells #[.int k u] e)) := by
  refine wpList_append_own _ hgd s x t ho base e i (.int k 0) 1 bytes ht hi hz hsize hby rfl (by decide) v n xs hs (hown.alloc _) ⟨w.heap.size, 0, none⟩ 1 1 [.int k u] hx rfl (cellv w _ e) (one_val _ rfl) h63 hbytes (by simp; omega) ?_
  intro v' w' ho' hg _
  exact h v' w' ho' (((Below.refl _ _).alloc hbase _).grown hg (by simp; omega) (fun q hq => (hown.lt q hq).1))
end Go.Proofs.YtjfdjpaocdhbbaaGreatDoor.mem
