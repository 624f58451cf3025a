import Derived.Test.YtjicabpeohpbpabDoorPRd
namespace Go.Proofs.YtjicabpeohpbpabDoor.stp
open Go.ChangeShapes Go.WideShapes Go.ChangeAt Go.RowKit
set_option linter.unusedVariables false
theorem infoT : (Tryd.prog.info? 25).map (fun i => (i.zero, i.size, i.bytes)) = some (some (.agg #[.string ⟨#[]⟩, .int .i64 0, .bool false]), 3, 32) := by kernel_rfl
def c3s (s : St) : List Value := [.string s.nm, .int .i64 s.ix, .bool s.it]
/-- a path that grows: the steps lie in a row of the call's own -/
def OwnP (w : World) (B : Nat) (v : Value) (ss : List St) : Prop := w.ownsRow B 25 3 v ss.length (ss.flatMap c3s)
theorem c3s_len (ss : List St) : (ss.flatMap c3s).length = ss.length * 3 := by
  induction ss with
  | nil => rfl
  | cons s ss ih => rw [List.flatMap_cons, List.length_append, ih]; simp [c3s]; omega
theorem c3s_get : ∀ (ss : List St) (k : Nat) (s : St), ss[k]? = some s → (ss.flatMap c3s)[k * 3]? = some (.string s.nm) ∧ (ss.flatMap c3s)[k * 3 + 1]? = some (.int .i64 s.ix) ∧ (ss.flatMap c3s)[k * 3 + 2]? = some (.bool s.it)
  | [], k, s, h => by simp at h
  | q :: ss, 0, s, h => by
    simp at h
    subst h
    simp [c3s]
  | q :: ss, k + 1, s, h => by
    have ih := c3s_get ss k s (by simpa using h)
    rw [List.flatMap_cons]
    have e : ∀ j, (c3s q ++ ss.flatMap c3s)[(k + 1) * 3 + j]? = (ss.flatMap c3s)[k * 3 + j]? := by
      intro j
      rw [List.getElem?_append_right (by simp [c3s]; omega)]
      congr 1
      simp [c3s]
      omega
    exact ⟨(e 0).trans ih.1, (e 1).trans ih.2.1, (e 2).trans ih.2.2⟩
theorem ownP_pth {w : World} {B : Nat} {v : Value} {ss : List St} (h : OwnP w B v ss) : ∃ a c, v = .slice a ss.length c ∧ Pth w a ss.length ss ∧ ss.length ≤ c ∧ (a = none → c = 0) := by
  have h' := h
  obtain ⟨h1, h2⟩ := h'
  rcases h2 with ⟨rfl, h0⟩ | ⟨g, cap, cur, rfl, hg, hh, hnc, hcm, hcs, hx⟩
  · rw [h0]
    exact ⟨none, 0, rfl, ⟨h0, .inl rfl⟩, Nat.le_refl _, fun _ => rfl⟩
  · have hl : g < w.heap.size := by rcases Nat.lt_or_ge g w.heap.size with h | h; exact h; rw [Array.getElem?_eq_none h] at hh; cases hh
    refine ⟨_, cap, rfl, ⟨rfl, .inr ⟨g, 0, rfl, hl, fun i hi => ?_⟩⟩, hnc, fun e => by cases e⟩
    obtain ⟨s, hs⟩ : ∃ s, ss[i]? = some s := ⟨ss[i], by simp [hi]⟩
    obtain ⟨k0, k1, k2⟩ := c3s_get ss i s hs
    refine ⟨s, hs, ?_, ?_, ?_⟩
    · rw [Nat.zero_add, World.ownsRow.cellAt h (i * 3) (by omega)]; exact k0
    · rw [Nat.zero_add, World.ownsRow.cellAt h (i * 3 + 1) (by omega)]; exact k1
    · rw [Nat.zero_add, World.ownsRow.cellAt h (i * 3 + 2) (by omega)]; exact k2
theorem ownP_below {w w' : World} {B : Nat} {v : Value} {L : List St} (h : OwnP w B v L) (hb : Below w.heap.size w w') : OwnP w' B v L := by
  obtain ⟨h1, h2⟩ := h
  refine ⟨h1, ?_⟩
  rcases h2 with h2 | ⟨g, cap, cur, hv, hg, hh, r⟩
  · exact .inl h2
  · have hl : g < w.heap.size := by rcases Nat.lt_or_ge g w.heap.size with h | h; exact h; rw [Array.getElem?_eq_none h] at hh; cases hh
    exact .inr ⟨g, cap, cur, hv, hg, (hb.block g hl).trans hh, r⟩
theorem wp_step {P : Program} (w : World) {ops : Array Oper} {rest : List Oper} {o : Oper} {a : Act} {Q : Exit → Act → World → Prop} (hgd : o.guard = none) (sl x : Operand) (t : TypeId)
    (ho : o.op = .call { callee := .builtin .append, args := #[sl, x], argTypes := #[t, t] })
    (B : Nat) (i : TypeInfo) (ht : P.underlying t = some (.slice 25)) (hi : P.info? 25 = some i) (hz : i.zero = some (.agg #[.string ⟨#[]⟩, .int .i64 0, .bool false])) (hsize : i.size = 3) (hby : i.bytes = 32)
    (v : Value) (L : List St) (hs : a.eval sl = v) (hown : OwnP w B v L) (s : St) (N : Nat) (hx : a.eval x = .slice (some ⟨N, 0, none⟩) 1 1) (hN : N = w.heap.size)
    (hb : L.length + 1 ≤ 1000000000) (hbase : B ≤ w.heap.size)
    (h : ∀ v' w', OwnP w' B v' (L ++ [s]) → Below B w w' → wpList P ops Q rest (a.put o.dst v') w') : wpList P ops Q (o :: rest) a (w.alloc (.cells #[.string s.nm, .int .i64 s.ix, .bool s.it] 25)) := by
  subst hN
  refine wpList_append_own _ hgd sl x t ho B 25 i _ 3 32 ht hi hz hsize hby rfl (by decide) v L.length (L.flatMap c3s) hs (World.ownsRow.alloc hown _) ⟨w.heap.size, 0, none⟩ 1 1 (c3s s) hx rfl ?_ (by intro q hq; simp [c3s] at hq; rcases hq with rfl | rfl | rfl <;> rfl) (by unfold maxLen; omega) (by omega) (by simp; omega) ?_
  · intro j u' hj
    match j, hj with
    | 0, hj => simp [c3s] at hj; subst hj; simp [Addr.add]
    | 1, hj => simp [c3s] at hj; subst hj; simp [Addr.add]
    | 2, hj => simp [c3s] at hj; subst hj; simp [Addr.add]
    | (j + 3), hj => simp [c3s] at hj
  · intro v' w' ho' hg _
    refine h v' w' ?_ (((Below.refl _ _).alloc hbase _).grown hg (by simp; omega) (fun q hq => (hown.lt q hq).1))
    unfold OwnP
    rw [List.length_append, List.flatMap_append]
    simpa using ho'
/-- the pieces between the slashes -/
def pcs (s : ByteArray) : List ByteArray := Lib.splitB ⟨#[47]⟩ 0 (Lib.countB s ⟨#[47]⟩) s
theorem splitK_len : ∀ (n : Nat) (s : List UInt8), Lib.count s [47] = n → (Lib.splitK [47] 0 n s).length = n + 1 ∧ ((Lib.splitK [47] 0 n s).map List.length).sum ≤ s.length
  | 0, s, _ => by simp [Lib.splitK]
  | n + 1, s, h => by
    by_cases hm : Lib.index s [47] = -1
    · rw [Lib.count_miss hm] at h
      cases h
    · have hge := Lib.index_ge s [47]
      obtain ⟨i, hi⟩ : ∃ i : Nat, Lib.index s [47] = i := ⟨(Lib.index s [47]).toNat, by omega⟩
      have hc : Lib.count s [47] = 1 + Lib.count (s.drop (i + 1)) [47] := Lib.count_hit (by simp) hi
      have ih := splitK_len n (s.drop (i + 1)) (by omega)
      unfold Lib.splitK
      rw [hi, if_neg (by intro e; have := beq_iff_eq.1 e; omega)]
      simp only [Int.toNat_natCast, List.length_cons, List.length_nil, Nat.zero_add, Nat.add_zero, List.map_cons, List.sum_cons, List.length_take]
      refine ⟨by omega, ?_⟩
      have hd := ih.2
      rw [List.length_drop] at hd
      by_cases hle : i + 1 ≤ s.length
      · omega
      · have hz : s.length - (i + 1) = 0 := by omega
        omega
theorem pcs_data (s : ByteArray) : (pcs s).map (·.data.toList) = Lib.splitK [47] 0 (Lib.count s.data.toList [47]) s.data.toList := Lib.splitB_data _ _ _ _
theorem pcs_len (s : ByteArray) : (pcs s).length = Lib.countB s ⟨#[47]⟩ + 1 := by
  have h := (splitK_len _ s.data.toList rfl).1
  rw [← pcs_data, List.length_map] at h
  exact h
theorem pcs_sum (s : ByteArray) : ((pcs s).map ByteArray.size).sum ≤ s.size := by
  have h := (splitK_len _ s.data.toList rfl).2
  rw [← pcs_data, List.map_map, Array.length_toList] at h
  have e : (pcs s).map (List.length ∘ fun x => x.data.toList) = (pcs s).map ByteArray.size := by
    apply List.map_congr_left
    intro x _
    simp only [Function.comp, Array.length_toList]
    rfl
  rw [e] at h
  exact h
/-- the steps that a text is read as -/
def rdQ (s : ByteArray) : List St := (pcs s).tail.map fun x => rdS x.data.toList
theorem rd_wt (x : ByteArray) : 2 * (rdS x.data.toList).nm.size + 25 ≤ 2 * x.size + 25 := by
  unfold rdS
  split
  · show 2 * 0 + 25 ≤ 2 * x.size + 25
    omega
  · have h2 : (unesc x.data.toList).length ≤ x.size := by
      have := unesc_len x.data.toList
      rwa [Array.length_toList] at this
    show 2 * (unesc x.data.toList).length + 25 ≤ 2 * x.size + 25
    omega
theorem wt_rd : ∀ l : List ByteArray, wt (l.map fun x => rdS x.data.toList) ≤ 2 * (l.map ByteArray.size).sum + 25 * l.length
  | [] => by simp [wt]
  | x :: l => by
    have ih := wt_rd l
    have := rd_wt x
    simp only [wt, List.map_cons, List.sum_cons, List.length_cons] at *
    omega
theorem sum_tail (l : List ByteArray) : (l.tail.map ByteArray.size).sum ≤ (l.map ByteArray.size).sum := by
  cases l with
  | nil => simp
  | cons x l => simp
theorem rdQ_wt (s : ByteArray) (h : s.size ≤ 8388608) : wt (rdQ s) ≤ 1000000000 := by
  have h1 := wt_rd (pcs s).tail
  have h2 := sum_tail (pcs s)
  have h3 := pcs_sum s
  have h4 := pcs_len s
  have h5 := countB_le s ⟨#[47]⟩
  rw [List.length_tail, h4] at h1
  unfold rdQ
  omega
theorem atoiV_wf (l : List UInt8) : (Lit.int .i64 (atoiV l)).wf = true := by
  apply WalkArith.wf_i64
  unfold atoiV
  split
  · rename_i v h
    unfold Lib.atoiAll at h
    split at h
    · cases h
    · simp only at h
      split at h
      · cases h
      · cases h
      · split at h
        · cases h
        · split at h
          · cases h
          · rename_i u hu h1 h2
            simp only [Lib.NumEnd.ok.injEq] at h
            rw [← h]
            split <;> rename_i hn <;> simp only [hn, not_true_eq_false, not_false_eq_true, true_and, false_and] at h1 h2 <;> omega
  · decide
  · unfold Lib.atoiSat
    split <;> decide
theorem rdQ_fit (s : ByteArray) : Fit (rdQ s) := by
  intro q hq
  obtain ⟨x, _, rfl⟩ := List.mem_map.1 hq
  unfold rdS
  split
  · exact atoiV_wf _
  · show (Lit.int .i64 0).wf = true
    decide
end Go.Proofs.YtjicabpeohpbpabDoor.stp
