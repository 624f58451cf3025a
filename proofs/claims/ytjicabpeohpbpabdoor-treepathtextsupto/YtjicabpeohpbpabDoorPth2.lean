import Derived.Test.YtjicabpeohpbpabDoorPth1
import Derived.Laws.IdiomStrings
import Derived.Laws.BytesArg
namespace Go.Proofs.YtjicabpeohpbpabDoor.stp
open Go.ChangeShapes Go.WideShapes Go.ChangeAt Go.RowKit
set_option linter.unusedVariables false
theorem own8_string {w : World} {B : Nat} {v : Value} {L : List UInt8} (h : Own8 w B v L) : (convert 30 9 v).run Tryd.prog w = .ok (.string ⟨L.toArray⟩) w := by
  have h' := h
  obtain ⟨h1, h2⟩ := h'
  rcases h2 with ⟨rfl, h0⟩ | ⟨g, cap, cur, rfl, hg, hh, hnc, hcm, hcs, hx⟩
  · have : L = [] := List.eq_nil_of_length_eq_zero h0
    subst this
    exact run_convert_bytes_nil w 30 5 Tryd.underlying30 Tryd.underlying5 0 0 9 Tryd.underlying9
  · refine run_convert_bytes_back w 30 9 5 ⟨g, 0, none⟩ cap L Tryd.underlying30 Tryd.underlying5 Tryd.underlying9 (fun j hj => ?_)
    rw [Addr.add_lit, Nat.zero_add, World.ownsRow.cellAt h j (by omega)]
    simp [bc, Lib.byteCells, hj]
theorem own8_alloc {w : World} {B : Nat} {v : Value} {L : List UInt8} (h : Own8 w B v L) (o : Obj) : Own8 (w.alloc o) B v L := World.ownsRow.alloc h o
theorem wp_byteN {P : Program} (w : World) {ops : Array Oper} {rest : List Oper} {o : Oper} {a : Act} {Q : Exit → Act → World → Prop} (hgd : o.guard = none) (sl x : Operand) (t : TypeId)
    (ho : o.op = .call { callee := .builtin .append, args := #[sl, x], argTypes := #[t, t] })
    (B : Nat) (i : TypeInfo) (ht : P.underlying t = some (.slice 5)) (hi : P.info? 5 = some i) (hz : i.zero = some (.int .u8 0)) (hsize : i.size = 1) (hby : i.bytes = 1)
    (v : Value) (L : List UInt8) (hs : a.eval sl = v) (hown : Own8 w B v L) (c : UInt8) (N : Nat) (hx : a.eval x = .slice (some ⟨N, 0, none⟩) 1 1) (hN : N = w.heap.size) (z : Int) (hc : z = (c.toNat : Int))
    (hb : L.length + 1 ≤ 140737488355328) (hbase : B ≤ w.heap.size)
    (h : ∀ v' w', Own8 w' B v' (L ++ [c]) → Below B w w' → (∀ p : Addr, p.block < w.heap.size → some p.block ≠ v.ownBlock → w'.cell? p = w.cell? p) → wpList P ops Q rest (a.put o.dst v') w') : wpList P ops Q (o :: rest) a (w.alloc (.cells #[.int .u8 z] 5)) := by
  subst hN hc
  exact wp_byte w hgd sl x t ho B i ht hi hz hsize hby v L hs hown c hx hb hbase h
theorem own_ne8 {w : World} {B : Nat} {v : Value} {L : List UInt8} (h : Own8 w B v L) : (some w.heap.size : Option Nat) ≠ v.ownBlock := by
  intro e
  have := (World.ownsRow.lt h w.heap.size e.symm).2
  omega
theorem own8_of {w : World} {B : Nat} {v : Value} {L l : List UInt8} (h : w.ownsRow B 5 1 v (L.length + l.length) (bc L ++ bc l)) : Own8 w B v (L ++ l) := by
  unfold Own8
  rw [List.length_append, show bc (L ++ l) = bc L ++ bc l by simp [bc, Lib.byteCells]]
  exact h
/-- how long a path's text can be -/
def wt (ss : List St) : Nat := (ss.map fun s => 2 * s.nm.size + 25).sum
def Fit (ss : List St) : Prop := ∀ s ∈ ss, (Lit.int .i64 s.ix).wf = true
theorem wf_range {x : Int} (h : (Lit.int .i64 x).wf = true) : -9223372036854775808 ≤ x ∧ x ≤ 9223372036854775807 := by
  simpa [Lit.wf, IntKind.min, IntKind.max, IntKind.signed, IntKind.bits] using h
theorem encS_len (s : St) (h : (Lit.int .i64 s.ix).wf = true) : (encS s).length + 1 ≤ 2 * s.nm.size + 24 := by
  unfold encS
  split
  · have := Lib.itoa_length_le s.ix (wf_range h).1 (wf_range h).2
    omega
  · have h2 : (s.nm.data.toList.flatMap escB).length ≤ 2 * s.nm.size := by
      have := esc_len s.nm.data.toList
      rwa [Array.length_toList] at this
    have h3 : (encN s.nm.data.toList).length ≤ 2 + (s.nm.data.toList.flatMap escB).length := by
      unfold encN
      rw [List.length_append]
      split
      · exact Nat.le_refl _
      · rw [List.length_nil]
        omega
    omega
theorem ptx_len : ∀ ss : List St, Fit ss → (ptx ss).length ≤ wt ss
  | [], _ => by simp [ptx]
  | s :: ss, h => by
    have ih := ptx_len ss (fun q hq => h q (List.mem_cons_of_mem _ hq))
    have := encS_len s (h s (by simp))
    have e : ptx (s :: ss) = 47 :: (encS s ++ ptx ss) := by simp [ptx, List.flatMap_cons]
    rw [e]
    simp only [List.length_cons, List.length_append, wt, List.map_cons, List.sum_cons] at *
    omega
theorem wt_take : ∀ (ss : List St) (k : Nat) (s : St), ss[k]? = some s → wt (ss.take k) + (2 * s.nm.size + 25) ≤ wt ss
  | [], k, s, h => by simp at h
  | q :: ss, 0, s, h => by
    simp at h
    subst h
    simp [wt]
  | q :: ss, k + 1, s, h => by
    have := wt_take ss k s (by simpa using h)
    simp only [List.take_succ_cons, wt, List.map_cons, List.sum_cons] at *
    omega
theorem ptx_step {ss : List St} {k : Nat} {s : St} (h : ss[k]? = some s) : ptx (ss.take (k + 1)) = ptx (ss.take k) ++ 47 :: encS s := by
  rw [List.take_add_one, h]
  simp [ptx]
theorem fit_take {ss : List St} (h : Fit ss) (k : Nat) : Fit (ss.take k) := fun s hs => h s (List.mem_of_mem_take hs)
theorem ptx_room {ss : List St} {k : Nat} {s : St} (hf : Fit ss) (h : ss[k]? = some s) (hb : wt ss ≤ 1000000000) : (ptx (ss.take k)).length + 2 * s.nm.size + 25 ≤ 1000000000 := by
  have := ptx_len _ (fit_take hf k)
  have := wt_take ss k s h
  omega
set_option maxHeartbeats 1000000 in
set_option maxRecDepth 6000 in
theorem pathText (a : Option Addr) (n c : Nat) (ss : List St) (w : World) (hA : Pth w a n ss) (bn : n ≤ 4611686018427387903) (hf : Fit ss) (hb : wt ss ≤ 1000000000)
    (htab : Lib.TabBelow Tryd.prog w.heap.size w "internal/strconv.uint64pow10" .u64 Lib.pow10Tab) :
    Calls Tryd.prog 4 #[.slice a n c] w fun e w' => e = .returned (.string ⟨(ptx ss).toArray⟩) ∧ Below w.heap.size w w' := by
  obtain ⟨i0, hi, hz0, hz1, hz2⟩ := info_parts info8
  go_enter Tryd.func4, Tryd.ntmps4
  go_wp2_with fail
  go_loopw [8, 3] (fun vk vo wr => ∃ k : Nat, k ≤ n ∧ vk = .int .i64 k ∧ Own8 wr w.heap.size vo (ptx (ss.take k)) ∧ Below w.heap.size w wr) (fun vk _ _ => n - (intOf vk).toNat)
  case atStart => exact ⟨0, Nat.zero_le _, rfl, World.ownsRow_nil _ _ _ _, Below.refl _ _⟩
  case round =>
    obtain ⟨k, hk, rfl, ok, hbk⟩ := hrel
    by_cases hlt : k < n
    · have ki : (k : Int) < (n : Int) := by omega
      rcases (hA.below hbk).at_ with h0 | ⟨b, off, rfl, hbw, hcell⟩
      · omega
      obtain ⟨s, hs, u0, u1, u2⟩ := hcell k hlt
      have hstep := hide (ptx_step hs)
      have hroom := hide (ptx_room hf hs hb)
      have hw := wf_range (hf s (List.mem_of_getElem? hs))
      obtain ⟨nm, ix, it⟩ := s
      clear hcell hs
      simp only at u0 u1 u2 hw
      have hbs := hbk.size
      have okA := own8_alloc ok (.cells #[.string nm, .int .i64 ix, .bool it] 25)
      have hbA := hbk.alloc hbs (.cells #[.string nm, .int .i64 ix, .bool it] 25)
      cases it
      · go_wp2_with (at_builtin; refine wp_byteN (wr.alloc (.cells #[.string nm, .int .i64 ix, .bool false] 25)) rfl _ _ 30 rfl w.heap.size i0 Tryd.underlying30 hi hz0 hz1 hz2 _ _ (by rfl) okA 47 (wr.heap.size + 1) (by rfl) (by simp) _ (by rfl) (by have := unhide hroom; omega) (by simp; omega) ?_; intro v2 w2 o2 b2 hkp; have x0 := hkp ⟨wr.heap.size, 0, none⟩ (by simp) (own_ne8 ok); have x1 := hkp ⟨wr.heap.size, 1, none⟩ (by simp) (own_ne8 ok); have x2 := hkp ⟨wr.heap.size, 2, none⟩ (by simp) (own_ne8 ok); simp at x0 x1 x2; clear hkp)
        have b3 := hbA.trans b2
        have hl := hide (show (ptx (ss.take k) ++ [47]).length = (ptx (ss.take k)).length + 1 by simp)
        refine (appName nm v2 _ w.heap.size w2 o2 b3.size (by rw [unhide hl]; have := unhide hroom; omega)).mono ?_
        rintro e w3 ⟨v3, rfl, o3, b4⟩
        go_wp2
        go_roundw
        case rel => exact ⟨k + 1, by omega, by go_num, by rw [unhide hstep]; simpa [encS] using o3, b3.trans b4⟩
        case measure => simp [intOf]; omega
      · go_wp2_with (at_builtin; refine wp_byteN (wr.alloc (.cells #[.string nm, .int .i64 ix, .bool true] 25)) rfl _ _ 30 rfl w.heap.size i0 Tryd.underlying30 hi hz0 hz1 hz2 _ _ (by rfl) okA 47 (wr.heap.size + 1) (by rfl) (by simp) _ (by rfl) (by have := unhide hroom; omega) (by simp; omega) ?_; intro v2 w2 o2 b2 hkp; have x0 := hkp ⟨wr.heap.size, 0, none⟩ (by simp) (own_ne8 ok); have x1 := hkp ⟨wr.heap.size, 1, none⟩ (by simp) (own_ne8 ok); have x2 := hkp ⟨wr.heap.size, 2, none⟩ (by simp) (own_ne8 ok); simp at x0 x1 x2; clear hkp)
        have b3 := hbA.trans b2
        have hl := hide (show (ptx (ss.take k) ++ [47]).length = (ptx (ss.take k)).length + 1 by simp)
        refine (Tryd.strconv_AppendInt_10 w.heap.size _ ix hw.1 hw.2 v2 _ w2 o2 b3.size (by rw [unhide hl]; have := unhide hroom; omega) (htab.on b3)).mono ?_
        rintro e w3 ⟨v3, rfl, o3, b4, -⟩
        go_wp2
        go_roundw
        case rel => exact ⟨k + 1, by omega, by go_num, by rw [unhide hstep, show ptx (ss.take k) ++ 47 :: encS ⟨nm, ix, true⟩ = (ptx (ss.take k) ++ [47]) ++ Lib.itoa ix by simp [encS]]; exact own8_of o3, b3.trans b4⟩
        case measure => simp [intOf]; omega
    · have ki : ¬ (k : Int) < (n : Int) := by omega
      have hfin := hide (show ss.take k = ss from List.take_of_length_le (by rw [hA.len]; omega))
      have hcv := own8_string ok
      go_wp2
      go_ret
      exact ⟨by rw [unhide hfin]; rfl, hbk⟩
end Go.Proofs.YtjicabpeohpbpabDoor.stp
