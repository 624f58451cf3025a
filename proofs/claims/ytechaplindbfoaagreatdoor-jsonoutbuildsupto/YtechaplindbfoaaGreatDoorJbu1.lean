import Derived.Test.YtechaplindbfoaaGreatDoorJpa13
import Derived.Deep.Strs
import Derived.Deep.DeepHandedRow
namespace Go.Proofs.YtechaplindbfoaaGreatDoor.jsn
open Go.ChangeShapes Go.WideShapes Go.ChangeAt Go.RowKit
open mem
open vl hiding hide unhide Hid
open ints (hide unhide)
set_option linter.unusedVariables false
set_option linter.unusedSimpArgs false
set_option linter.unnecessarySimpa false
/-- may this pair be written? -/
def okB (q : ByteArray × Vl) : Bool := (jfE q.2 == 0) && cln q.1
theorem okB_iff {q : ByteArray × Vl} : okB q = true ↔ jfE q.2 = 0 ∧ cln q.1 = true := by simp [okB]
noncomputable def txK (K : List (ByteArray × Vl)) (i : Nat) : List UInt8 := (K.map (fun q => js NZ q.2)).getD i []
def nmK (K : List (ByteArray × Vl)) (i : Nat) : List UInt8 := (K.map (fun q => q.1.data.toList)).getD i []
theorem partsL_congr {f g : Nat → List UInt8} : ∀ {n : Nat}, (∀ i, i < n → f i = g i) → partsL f n = partsL g n
  | 0, _ => rfl
  | n + 1, h => by rw [partsL, partsL, partsL_congr (fun i hi => h i (by omega)), h n (by omega)]
theorem partsO_congr {f g a b : Nat → List UInt8} : ∀ {n : Nat}, (∀ i, i < n → f i = g i ∧ a i = b i) → partsO a f n = partsO b g n
  | 0, _ => rfl
  | n + 1, h => by rw [partsO, partsO, partsO_congr (fun i hi => h i (by omega)), (h n (by omega)).1, (h n (by omega)).2]
theorem getD_app {α : Type} (l r : List α) (d : α) (i : Nat) (h : i < l.length) : (l ++ r).getD i d = l.getD i d := by
  simp [List.getD, List.getElem?_append_left h]
theorem getD_end {α : Type} (l : List α) (x d : α) : (l ++ [x]).getD l.length d = x := by simp [List.getD]
theorem txK_snoc (K : List (ByteArray × Vl)) (q : ByteArray × Vl) : partsL (txK (K ++ [q])) (K ++ [q]).length = partsL (txK K) K.length ++ (com K.length ++ js NZ q.2) := by
  rw [List.length_append, List.length_singleton, partsL]
  have e1 : partsL (txK (K ++ [q])) K.length = partsL (txK K) K.length := partsL_congr fun i hi => by
    unfold txK
    rw [List.map_append]
    exact getD_app _ _ _ _ (by simpa using hi)
  have e2 : txK (K ++ [q]) K.length = js NZ q.2 := by
    unfold txK
    rw [List.map_append]
    have := getD_end (K.map (fun q => js NZ q.2)) (js NZ q.2) []
    simpa using this
  rw [e1, e2]
theorem nmK_snoc (K : List (ByteArray × Vl)) (q : ByteArray × Vl) : partsO (nmK (K ++ [q])) (txK (K ++ [q])) (K ++ [q]).length = partsO (nmK K) (txK K) K.length ++ (com K.length ++ (txt q.1.data.toList ++ ([58] ++ js NZ q.2))) := by
  rw [List.length_append, List.length_singleton, partsO]
  have e1 : partsO (nmK (K ++ [q])) (txK (K ++ [q])) K.length = partsO (nmK K) (txK K) K.length := partsO_congr fun i hi => by
    unfold txK nmK
    rw [List.map_append, List.map_append]
    exact ⟨getD_app _ _ _ _ (by simpa using hi), getD_app _ _ _ _ (by simpa using hi)⟩
  have e2 : txK (K ++ [q]) K.length = js NZ q.2 := by
    unfold txK
    rw [List.map_append]
    have := getD_end (K.map (fun q => js NZ q.2)) (js NZ q.2) []
    simpa using this
  have e3 : nmK (K ++ [q]) K.length = q.1.data.toList := by
    unfold nmK
    rw [List.map_append]
    have := getD_end (K.map (fun q => q.1.data.toList)) q.1.data.toList []
    simpa using this
  rw [e1, e2, e3]
theorem of_listV : ∀ l : List Vl, (Vls.of l).list = l
  | [] => rfl
  | v :: r => by simp [Vls.of, Vls.list, of_listV r]
theorem of_listF : ∀ l : List (ByteArray × Vl), (Fls.of l).list = l
  | [] => rfl
  | (nm, v) :: r => by simp [Fls.of, Fls.list, of_listF r]
/-- the list and the object that are built -/
def lV (K : List (ByteArray × Vl)) : Vl := .mk 5 false 0 0 ⟨#[]⟩ ⟨#[]⟩ (Vls.of (K.map (·.2))) .nil
def oV (K : List (ByteArray × Vl)) : Vl := .mk 6 false 0 0 ⟨#[]⟩ ⟨#[]⟩ .nil (Fls.of K)
theorem js_lV (K : List (ByteArray × Vl)) : js NZ (lV K) = [91] ++ partsL (txK K) K.length ++ [93] := by
  unfold lV js
  simp only [show ¬ ((5 : Int) = 0) by decide, show ¬ ((5 : Int) = 1) by decide, show ¬ ((5 : Int) = 2) by decide, show ¬ ((5 : Int) = 3) by decide, show ¬ ((5 : Int) = 4) by decide, if_false, if_true]
  rw [of_listV, List.length_map]
  congr 2
  refine partsL_congr fun i hi => ?_
  have hg : (Vls.of (K.map (·.2))).list[i]? = some (K[i].2) := by rw [of_listV, List.getElem?_map, List.getElem?_eq_getElem hi]; rfl
  rw [jsL_at NZ _ i _ hg]
  unfold txK
  simp [List.getD, List.getElem?_eq_getElem hi]
theorem js_oV (K : List (ByteArray × Vl)) : js NZ (oV K) = [123] ++ partsO (nmK K) (txK K) K.length ++ [125] := by
  unfold oV js
  simp only [show ¬ ((6 : Int) = 0) by decide, show ¬ ((6 : Int) = 1) by decide, show ¬ ((6 : Int) = 2) by decide, show ¬ ((6 : Int) = 3) by decide, show ¬ ((6 : Int) = 4) by decide, show ¬ ((6 : Int) = 5) by decide, if_false]
  rw [of_listF]
  congr 2
  refine partsO_congr fun i hi => ?_
  have hg : (Fls.of K).list[i]? = some K[i] := by rw [of_listF, List.getElem?_eq_getElem hi]
  rw [jsF_at NZ _ i _ hg, nmAt_at _ hg]
  unfold txK nmK
  simp [List.getD, List.getElem?_eq_getElem hi]
theorem jf_lV {K : List (ByteArray × Vl)} (h : ∀ q ∈ K, okB q = true) : jfE (lV K) = 0 := by
  unfold lV jfE
  simp only [show ¬ ((5 : Int) = 0 ∨ (5 : Int) = 1 ∨ (5 : Int) = 2) by decide, show ¬ ((5 : Int) = 3) by decide, show ¬ ((5 : Int) = 4) by decide, if_false, if_true]
  refine jfL_all.2 fun v hv => ?_
  rw [of_listV] at hv
  obtain ⟨q, hq, rfl⟩ := List.mem_map.1 hv
  exact (okB_iff.1 (h q hq)).1
theorem nmJ_dup : ∀ (l : List ByteArray) (seen : List (List UInt8)), (∀ s ∈ l, cln s = true) → (((l.map (·.data.toList)).Nodup ∧ ∀ s ∈ l, s.data.toList ∉ seen) → nmJ seen l = 0) ∧ (¬ ((l.map (·.data.toList)).Nodup ∧ ∀ s ∈ l, s.data.toList ∉ seen) → nmJ seen l = 5)
  | [], seen, _ => ⟨fun _ => rfl, fun h => absurd ⟨by simp, by simp⟩ h⟩
  | s :: r, seen, hc => by
    obtain ⟨h1, h2⟩ := nmJ_dup r (seen ++ [s.data.toList]) (fun x hx => hc x (List.mem_cons_of_mem _ hx))
    rw [nmJ, hc s (List.mem_cons_self ..), if_neg (by decide)]
    by_cases hs : s.data.toList ∈ seen
    · have e : seen.contains s.data.toList = true := by simpa using hs
      rw [if_pos e]
      exact ⟨fun h => absurd hs (h.2 s (List.mem_cons_self ..)), fun _ => rfl⟩
    · have e : ¬ seen.contains s.data.toList = true := by simpa using hs
      rw [if_neg e]
      have key : (((s :: r).map (·.data.toList)).Nodup ∧ ∀ x ∈ s :: r, x.data.toList ∉ seen) ↔ ((r.map (·.data.toList)).Nodup ∧ ∀ x ∈ r, x.data.toList ∉ seen ++ [s.data.toList]) := by
        rw [List.map_cons, List.nodup_cons]
        constructor
        · rintro ⟨⟨a, b⟩, c⟩
          refine ⟨b, fun x hx hm => ?_⟩
          rcases List.mem_append.1 hm with hm | hm
          · exact c x (List.mem_cons_of_mem _ hx) hm
          · have : x.data.toList = s.data.toList := by simpa using hm
            exact a (List.mem_map.2 ⟨x, hx, this⟩)
        · rintro ⟨b, c⟩
          refine ⟨⟨fun hm => ?_, b⟩, fun x hx => ?_⟩
          · obtain ⟨x, hx, e⟩ := List.mem_map.1 hm
            exact c x hx (by rw [e]; simp)
          · rcases List.mem_cons.1 hx with rfl | hx
            · exact hs
            · exact fun hm => c x hx (by simp [hm])
      rw [key]
      exact ⟨h1, h2⟩
theorem jf_oV {K : List (ByteArray × Vl)} (h : ∀ q ∈ K, okB q = true) : ((K.map (fun q => q.1.data.toList)).Nodup → jfE (oV K) = 0) ∧ (¬ (K.map (fun q => q.1.data.toList)).Nodup → jfE (oV K) = 5) := by
  have hz : jfF (Fls.of K) = 0 := jfF_all.2 fun q hq => by
    rw [of_listF] at hq
    exact (okB_iff.1 (h q hq)).1
  obtain ⟨h1, h2⟩ := nmJ_dup (K.map (·.1)) [] (fun s hs => by
    obtain ⟨q, hq, rfl⟩ := List.mem_map.1 hs
    exact (okB_iff.1 (h q hq)).2)
  rw [List.map_map] at h1 h2
  unfold oV jfE
  simp only [show ¬ ((6 : Int) = 0 ∨ (6 : Int) = 1 ∨ (6 : Int) = 2) by decide, show ¬ ((6 : Int) = 3) by decide, show ¬ ((6 : Int) = 4) by decide, show ¬ ((6 : Int) = 5) by decide, if_false, if_true, of_listF, hz]
  refine ⟨fun hn => ?_, fun hn => ?_⟩
  · rw [if_pos (h1 ⟨hn, by simp⟩)]
  · rw [if_neg (by rw [h2 (fun hh => hn hh.1)]; decide), h2 (fun hh => hn hh.1)]
theorem wt_of : ∀ l : List Vl, wtI (Vls.of l) = (l.map wtV).sum := fun l => by rw [wtI_sum, of_listV]
theorem wt_ofF : ∀ l : List (ByteArray × Vl), wtF (Fls.of l) = (l.map (fun q => q.1.size + wtV q.2)).sum := fun l => by rw [wtF_sum, of_listF]
theorem sum_filter {α : Type} (f : α → Nat) (p : α → Bool) : ∀ l : List α, ((l.filter p).map f).sum ≤ (l.map f).sum
  | [] => by simp
  | x :: r => by
    have := sum_filter f p r
    rw [List.filter_cons]
    split
    · rw [List.map_cons, List.map_cons, List.sum_cons, List.sum_cons]; omega
    · rw [List.map_cons, List.sum_cons]; omega
theorem sum_zip : ∀ (a : List ByteArray) (b : List Vl), ((a.zip b).map (fun q => q.1.size + wtV q.2)).sum ≤ (a.map (·.size)).sum + (b.map wtV).sum
  | [], b => by simp
  | _ :: _, [] => by simp
  | x :: a, y :: b => by
    have := sum_zip a b
    rw [List.zip_cons_cons, List.map_cons, List.map_cons, List.map_cons, List.sum_cons, List.sum_cons, List.sum_cons]
    simp only
    omega
section
variable {H : Type} {enc : TypeId × Value → H} {w : World} {base : Nat} {held : Bool}
theorem vals_bulk {fuel : Nat} {a0 : Option Addr} {len0 cap0 : Nat} {d : DataW H} {p : List MemPlace} (h : DataW.trod enc Tryz.prog w base (fun _ => true) held fuel 22 [.slice a0 len0 cap0] = some (d, p)) (hN : Rows.uptoBulk d ≤ 1048576) :
    ∃ l, VlsAt w l a0 len0 ∧ len0 ≤ cap0 ∧ len0 ≤ 1048576 ∧ FlI l ∧ wtI l ≤ 1048576 := by
  rcases DataW.trod_slice Tryz.underlying22 h with ⟨hc, _⟩ | ⟨a, len, cap, elems, rest, k, hk, hc, hxs, _, hlc, hcm, hel, hcell, _, _⟩
  · simp at hc
    obtain ⟨rfl, rfl, rfl⟩ := hc
    exact ⟨.nil, by unfold VlsAt; rfl, Nat.le_refl _, Nat.zero_le _, by unfold FlI; trivial, Nat.zero_le _⟩
  · simp at hc
    obtain ⟨rfl, rfl, rfl⟩ := hc
    have hd : d = .slice (elems.map (·.1)) (rest.map (·.1)) := congrArg Prod.fst hxs
    subst hd
    have hbl := jbk_slice (elems.map (·.1)) (rest.map (·.1))
    have hbe := jbk_elems (elems.map (·.1)) (rest.map (·.1))
    rw [List.length_map, List.length_map] at hbl
    have key : ∀ i (hi : i < len0), ∃ cs v, w.cells? base (a.add (i * 8)) 8 = some cs ∧ VlC w v cs ∧ FlV v ∧ wtV v ≤ Rows.uptoBulk (elems[i]'(by omega)).1 := by
      intro i hi
      have h1 := hcell i hi
      rw [cellsV, List.getElem?_eq_getElem (show i < elems.length by omega), Option.bind_eq_some_iff] at h1
      obtain ⟨cs, h2, h3⟩ := h1
      have hbm := jbk_mem (List.mem_map.2 ⟨_, List.getElem_mem (show i < elems.length by omega), rfl⟩ : (elems[i]'(by omega)).1 ∈ elems.map (·.1))
      obtain ⟨v, hv, hsv, hht⟩ := jval_ofC k cs _ h3 (by omega)
      exact ⟨cs, v, h2, hv, hsv, hht⟩
    by_cases h0 : len0 = 0
    · subst h0
      exact ⟨.nil, by unfold VlsAt; rfl, by omega, by omega, by unfold FlI; trivial, Nat.zero_le _⟩
    · have hsp : a.spot = none := by
        obtain ⟨cs, v, h1, _, _⟩ := key 0 (by omega)
        have := spot_of h1 (by omega)
        simpa [Addr.add] using this
      obtain ⟨bb, off, spot⟩ := a
      simp only at hsp
      subst hsp
      obtain ⟨l, hl, hlq, hlw⟩ := jvls_ofW w bb (elems.map (fun e => Rows.uptoBulk e.1)) off (fun i hi => by
        rw [List.length_map] at hi
        obtain ⟨cs, v, h1, h2, h3, h4⟩ := key i (by omega)
        rw [Addr.add_lit] at h1
        exact ⟨cs, v, (row_of h1 rfl).2, h2, h3, by rw [List.getElem_map]; exact h4⟩)
      rw [List.length_map, hel] at hl
      have := jbk_sum (elems.map (·.1))
      rw [List.map_map] at this
      have e2 : (elems.map (fun e => Rows.uptoBulk e.1)).sum = Rows.uptoBulkAll (elems.map (·.1)) := this
      exact ⟨l, hl, hlc, by omega, FlI.mk hlq, by omega⟩
/-- a list of texts in memory -/
structure Txj (w : World) (a : Option Addr) (n : Nat) (Ns : List ByteArray) : Prop where
  len : Ns.length = n
  at_ : n = 0 ∨ ∃ b off, a = some ⟨b, off, none⟩ ∧ b < w.heap.size ∧ ∀ i s, Ns[i]? = some s → w.cell? ⟨b, off + i, none⟩ = some (.string s) ∧ s.size ≤ maxLen
theorem bulk_sum (Sx : Nat → ByteArray) : ∀ n, ((List.range n).map fun i => (Sx i).size).sum + n ≤ Rows.uptoBulkAll ((List.range n).map (fun i => (DataW.lit (.string (Sx i).data.toList) : DataW H)))
  | 0 => by simp [Rows.uptoBulkAll]
  | n + 1 => by
    have ih := bulk_sum Sx n
    have app : ∀ (l m : List (DataW H)), Rows.uptoBulkAll (l ++ m) = Rows.uptoBulkAll l + Rows.uptoBulkAll m := by
      intro l m
      induction l with
      | nil => simp [Rows.uptoBulkAll]
      | cons x l ih => simp only [List.cons_append, Rows.uptoBulkAll]; omega
    rw [List.range_succ, List.map_append, List.map_append, app, List.sum_append]
    simp only [List.map_cons, List.map_nil, Rows.uptoBulkAll, Rows.uptoBulk, List.sum_cons, List.sum_nil, size_list]
    omega
theorem texts_bulkJ {fuel : Nat} {a0 : Option Addr} {len0 cap0 : Nat} {d : DataW H} {p : List MemPlace}
    (h : DataW.trod enc Tryz.prog w base (fun _ => true) held fuel 41 [.slice a0 len0 cap0] = some (d, p)) (hN : Rows.uptoBulk d ≤ 1048576) :
    ∃ Ns, Txj w a0 len0 Ns ∧ len0 ≤ cap0 ∧ len0 ≤ 1048576 ∧ (Ns.map (·.size)).sum ≤ 1048576 := by
  rcases Go.Deep.open_strs Tryz.underlying41 Tryz.underlying9 (by kernel_rfl) h with ⟨hcs, _⟩ | ⟨a, len, cap, m, Sx, hcs, hb, hl, hm, hmm, hx, hcell⟩
  · simp at hcs
    obtain ⟨rfl, rfl, rfl⟩ := hcs
    exact ⟨[], ⟨rfl, .inl rfl⟩, Nat.le_refl _, Nat.zero_le _, Nat.zero_le _⟩
  · simp at hcs
    obtain ⟨rfl, rfl, rfl⟩ := hcs
    simp only [if_true] at hmm
    subst hmm
    simp only [Prod.mk.injEq] at hx
    obtain ⟨rfl, -⟩ := hx
    have hB := bulk_sum (H := H) Sx len0
    simp only [Rows.uptoBulk] at hN
    refine ⟨(List.range len0).map Sx, ⟨by simp, ?_⟩, hl, by omega, by rw [List.map_map]; show ((List.range len0).map fun i => (Sx i).size).sum ≤ _; omega⟩
    by_cases h0 : len0 = 0
    · exact .inl h0
    · obtain ⟨b, off, spot⟩ := a
      have hc := (hcell 0 (by omega)).1
      have hspot : spot = none := by simpa [Addr.add] using World.cell?_spot hc
      subst hspot
      refine .inr ⟨b, off, rfl, World.block_lt_of_cell? w _ hc, fun i s hs => ?_⟩
      have hi := (List.getElem?_eq_some_iff.1 hs).1
      rw [List.length_map, List.length_range] at hi
      rw [List.getElem?_map, List.getElem?_range hi] at hs
      obtain rfl : Sx i = s := by simpa using hs
      have := hcell i (by omega)
      rw [Addr.add_lit] at this
      exact this
end
end Go.Proofs.YtechaplindbfoaaGreatDoor.jsn
