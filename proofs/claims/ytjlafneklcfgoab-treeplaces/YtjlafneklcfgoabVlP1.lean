import Derived.Test.YtjlafneklcfgoabVlS3
import Derived.Test.YtjlafneklcfgoabVlW
namespace Go.Proofs.Ytjlafneklcfgoab.vl
open Go.ChangeShapes Go.WideShapes Go.ChangeAt Go.RowKit
open stp (St Pth St3)
set_option linter.unusedVariables false
set_option linter.unusedSimpArgs false
/-- what is known of a kind -/
def kOf (k : Int) : Vl → Prop
  | .mk kd b n f tx ty its fls => (k = 5 ↔ kd = 5) ∧ (k = 6 ↔ kd = 6)
set_option maxHeartbeats 4000000 in
theorem kind_ok (v : Vl) (cs : List Value) (w : World) (hv : VlC w v cs) : Calls Try.prog 61 #[.agg cs.toArray] w fun e w' => Below w.heap.size w w' ∧ ∃ k : Int, e = .returned (.int .i64 k) ∧ kOf k v := by
  obtain ⟨kd, bb, ni, f, tx, ty, its, fls⟩ := v
  have h8 := hv.cells
  have hw : (Lit.int .i64 kd).wf = true := by unfold VlC at hv; obtain ⟨_, _, _, _, _, _, _, _, _, _, _, _, _, h, _⟩ := hv; exact h
  have h0 : cs[0]? = some (.int .i64 kd) := by unfold VlC at hv; obtain ⟨_, _, _, _, _, _, rfl, _⟩ := hv; rfl
  have x0 : (w.alloc (.cells cs.toArray 27)).cell? ⟨w.heap.size, 0, none⟩ = some (.int .i64 kd) := by rw [World.cell?_alloc_at _ _ _ _ rfl]; simpa using h0
  have hB : Below w.heap.size w (w.alloc (.cells cs.toArray 27)) := (Below.refl _ _).alloc (Nat.le_refl _) _
  clear hv
  go_enter Try.func61, Try.ntmps61
  go_wp2
  all_goals
    go_ret
    refine ⟨hB, _, rfl, ?_⟩
    unfold kOf
    omega
set_option maxHeartbeats 4000000 in
theorem find_ok (v : Vl) (cs : List Value) (s : St) (w : World) (hv : VlC w v cs) : Calls Try.prog 32 #[.agg cs.toArray, s.val] w fun e w' => Below w.heap.size w w' ∧ e = .returned (.int .i64 (match chI v s with | some i => (i : Int) | none => -1)) := by
  obtain ⟨R, hR⟩ : ∃ R : Int, R = (match chI v s with | some i => (i : Int) | none => -1) := ⟨_, rfl⟩
  rw [← hR]
  obtain ⟨nm, ix, it⟩ := s
  unfold St.val
  obtain ⟨W, eW⟩ : ∃ W, W = ((w.alloc (.cells cs.toArray 27)).alloc (.cells #[.string nm, .int .i64 ix, .bool it] 33)) := ⟨_, rfl⟩
  have bW : Below w.heap.size w W := by rw [eW]; exact ((Below.refl _ _).alloc (Nat.le_refl _) _).alloc (by simp) _
  have hsz : W.heap.size = w.heap.size + 2 := by rw [eW]; simp
  have hrow : W.rangeAt w.heap.size 0 cs := fun j u hu => by
    rw [Nat.zero_add, eW, World.cell?_alloc_past _ _ _ (by simp), World.cell?_alloc_at _ _ _ _ rfl]; simpa using hu
  have s0 : W.cell? ⟨w.heap.size + 1, 0, none⟩ = some (.string nm) := by rw [eW]; simp
  have s1 : W.cell? ⟨w.heap.size + 1, 1, none⟩ = some (.int .i64 ix) := by rw [eW]; simp
  have s2 : W.cell? ⟨w.heap.size + 1, 2, none⟩ = some (.bool it) := by rw [eW]; simp
  have iC : (Try.prog.info? 27).map (·.size) = some cs.length := by rw [hv.cells]; exact infoV
  have vW := VlC.below bW v cs hv
  have EW := hide eW
  clear eW
  cases it with
  | true =>
    go_enter Try.func32, Try.ntmps32
    go_wp2_with (first
      | refine wpList_load_mid (by rfl) 27 _ (by rfl) w.heap.size 0 (by rfl) cs _ (by rw [← unhide EW]; exact hrow) Try.underlying27 (by rfl) iC ?_)
    rw [← unhide EW]
    clear EW
    refine (kind_ok v cs W vW).mono ?_
    rintro e w1 ⟨b1, k, rfl, hk⟩
    obtain ⟨kd, bb, ni, f, tx, ty, its, fls⟩ := v
    obtain ⟨hk5, hk6⟩ : (k = 5 ↔ kd = 5) ∧ (k = 6 ↔ kd = 6) := hk
    have t0 := keepC b1 (by omega) s0
    have t1 := keepC b1 (by omega) s1
    have bb1 : Below w.heap.size w w1 := bW.trans (b1.mono bW.size)
    have bW' := b1
    have hrow1 := Row8.below hrow b1
    unfold VlC at vW
    obtain ⟨ai, nI, ci, af, nf, cf, rfl, hI, hF, hni, hnf, hai, haf, hw1, hw2, hw3, hw4, hci, hcf⟩ := vW
    have x6 := hrow1 6 _ rfl
    have x7 := hrow1 7 _ rfl
    simp only [Nat.zero_add] at x6 x7
    have hlen := VlsAt.len its _ _ hI
    have hlenF := FlsAt.len fls _ _ hF
    unfold maxLen at hci hcf
    rw [chI_mk] at hR
    clear hrow hrow1 iC s0 s1 s2 b1
    rw [if_pos rfl] at hR
    by_cases hc : kd = 5 ∧ 0 ≤ ix ∧ ix < its.list.length
    · rw [if_pos hc] at hR
      obtain ⟨rfl, h0, h1⟩ := hc
      obtain rfl : k = 5 := hk5.2 rfl
      rw [hlen] at h1
      have hd0 : decide (0 ≤ ix) = true := by simpa using h0
      have hd1 : decide (ix < (nI : Int)) = true := by simpa using h1
      obtain rfl : R = ix := by rw [hR]; show ((ix.toNat : Nat) : Int) = ix; omega
      clear hk5 hk6 hlen hlenF hI hF hR
      go_wp2
      go_ret
      exact ⟨bb1, rfl⟩
    · rw [if_neg hc] at hR
      obtain rfl : R = -1 := hR
      rw [hlen] at hc
      clear hlen hlenF hI hF
      by_cases h5 : k = 5
      · subst h5
        have hkd := hk5.1 rfl
        clear hk5 hk6
        by_cases h0 : 0 ≤ ix
        · have hd0 : decide (0 ≤ ix) = true := by simpa using h0
          have hd1 : decide (ix < (nI : Int)) = false := by simp; omega
          clear hc hkd h0
          go_wp2
          go_ret
          exact ⟨bb1, rfl⟩
        · have hd0 : decide (0 ≤ ix) = false := by simpa using h0
          clear hc hkd h0
          go_wp2
          go_ret
          exact ⟨bb1, rfl⟩
      · have hb5 : (k == 5) = false := by simpa using h5
        clear hc hk5 hk6 h5
        go_wp2
        go_ret
        exact ⟨bb1, rfl⟩
  | false =>
    go_enter Try.func32, Try.ntmps32
    go_wp2_with (first
      | refine wpList_load_mid (by rfl) 27 _ (by rfl) w.heap.size 0 (by rfl) cs _ (by rw [← unhide EW]; exact hrow) Try.underlying27 (by rfl) iC ?_)
    rw [← unhide EW]
    clear EW
    refine (kind_ok v cs W vW).mono ?_
    rintro e w1 ⟨b1, k, rfl, hk⟩
    obtain ⟨kd, bb, ni, f, tx, ty, its, fls⟩ := v
    obtain ⟨hk5, hk6⟩ : (k = 5 ↔ kd = 5) ∧ (k = 6 ↔ kd = 6) := hk
    have t0 := keepC b1 (by omega) s0
    have t1 := keepC b1 (by omega) s1
    have bb1 : Below w.heap.size w w1 := bW.trans (b1.mono bW.size)
    have bW' := b1
    have hrow1 := Row8.below hrow b1
    unfold VlC at vW
    obtain ⟨ai, nI, ci, af, nf, cf, rfl, hI, hF, hni, hnf, hai, haf, hw1, hw2, hw3, hw4, hci, hcf⟩ := vW
    have x6 := hrow1 6 _ rfl
    have x7 := hrow1 7 _ rfl
    simp only [Nat.zero_add] at x6 x7
    have hlen := VlsAt.len its _ _ hI
    have hlenF := FlsAt.len fls _ _ hF
    unfold maxLen at hci hcf
    rw [chI_mk] at hR
    clear hrow hrow1 iC s0 s1 s2 b1
    rw [if_neg (by simp)] at hR
    by_cases h6 : k = 6
    · subst h6
      rw [if_pos (hk6.1 rfl)] at hR
      have HR := hide hR
      clear hk5 hk6 hlen hI hR
      go_wp2_with fail
      have HF1 := hide (FlsAt.below bW' fls _ _ hF)
      have hlw : w.heap.size + 1 < w1.heap.size := by have := bW'.size; omega
      clear hF
      go_loopw [5] (fun vi wr => ∃ k : Nat, k ≤ nf ∧ vi = .int .i64 k ∧ (∀ i q, i < k → fls.list[i]? = some q → q.1 ≠ nm) ∧ Below w1.heap.size w1 wr) (fun vi _ => nf - (intOf vi).toNat)
      case atStart => exact ⟨0, Nat.zero_le _, rfl, fun i q hi => absurd hi (Nat.not_lt_zero _), Below.refl _ _⟩
      case round =>
        obtain ⟨k, hk, rfl, hno, hB⟩ := hrel
        have z7 := keepC hB (by omega) x7
        have z0 := keepC hB hlw t0
        by_cases hlt : k < nf
        · have ki : (k : Int) < (nf : Int) := by omega
          obtain ⟨p, off, nk, v, cs, rfl, hg, hn0, -, -, -⟩ := FlsAt.get fls _ nf (unhide HF1) k hlt
          have zn := keepC hB (World.block_lt_of_cell? w1 _ hn0) hn0
          have hlp := World.block_lt_of_cell? wr _ zn
          have hlx : w.heap.size < wr.heap.size := by have := hB.size; omega
          have hly : w.heap.size + 1 < wr.heap.size := by have := hB.size; omega
          have Hg := hide hg
          clear hn0 hg x7 x6 t0 t1
          go_wp2_with fail
          have hS0 : Below wr.heap.size wr { wr with drawn := wr.drawn + 1 } := (Below.refl _ _).drew
          refine wp_region_noPanic ?_
          refine wp_region_held (S := fun w' => Below wr.heap.size wr w') mixed ?_
          refine wpAnyH_take (i := 0) (v := ?v1) rfl (by kernel_rfl) (by kernel_rfl) (by kernel_rfl) (fun _ _ _ h => h) (Or.inl ⟨by rfl, ?hy1⟩) hS0 ?_
          case hy1 => (intro w' hw'; have c7 := keepC hw' hlx z7; have c0 := keepC hw' hly z0; have cn := keepC hw' hlp zn; go_simp; try with_reducible rfl)
          simp only [List.getElem_toArray, List.getElem_cons_zero, List.getElem_cons_succ, Act.put, List.setIfInBounds_toArray, List.set_cons_zero, List.set_cons_succ]
          refine wpAnyH_take (i := 1) (v := ?v2) rfl (by kernel_rfl) (by kernel_rfl) (by kernel_rfl) (fun _ _ _ h => h) (Or.inl ⟨by rfl, ?hy2⟩) hS0 ?_
          case hy2 => (intro w' hw'; have c7 := keepC hw' hlx z7; have c0 := keepC hw' hly z0; have cn := keepC hw' hlp zn; go_simp; try with_reducible rfl)
          simp only [List.getElem_toArray, List.getElem_cons_zero, List.getElem_cons_succ, Act.put, List.setIfInBounds_toArray, List.set_cons_zero, List.set_cons_succ]
          refine wpAnyH_take (i := 2) (v := ?v3) rfl (by kernel_rfl) (by kernel_rfl) (by kernel_rfl) (fun _ _ _ h => h) (Or.inl ⟨by rfl, ?hy3⟩) hS0 ?_
          case hy3 => (intro w' hw'; have c7 := keepC hw' hlx z7; have c0 := keepC hw' hly z0; have cn := keepC hw' hlp zn; go_simp; try with_reducible rfl)
          simp only [List.getElem_toArray, List.getElem_cons_zero, List.getElem_cons_succ, Act.put, List.setIfInBounds_toArray, List.set_cons_zero, List.set_cons_succ]
          refine wpAnyH_take (i := 3) (v := ?v4) rfl (by kernel_rfl) (by kernel_rfl) (by kernel_rfl) (fun _ _ _ h => h) (Or.inl ⟨by rfl, ?hy4⟩) hS0 ?_
          case hy4 => (intro w' hw'; have c7 := keepC hw' hlx z7; have c0 := keepC hw' hly z0; have cn := keepC hw' hlp zn; go_simp; try with_reducible rfl)
          simp only [List.getElem_toArray, List.getElem_cons_zero, List.getElem_cons_succ, Act.put, List.setIfInBounds_toArray, List.set_cons_zero, List.set_cons_succ]
          refine wpAnyH_take (i := 4) (v := ?v5) rfl (by kernel_rfl) (by kernel_rfl) (by kernel_rfl) (fun _ _ _ h => h) (Or.inl ⟨by rfl, ?hy5⟩) hS0 ?_
          case hy5 => (intro w' hw'; have c7 := keepC hw' hlx z7; have c0 := keepC hw' hly z0; have cn := keepC hw' hlp zn; go_simp; try with_reducible rfl)
          simp only [List.getElem_toArray, List.getElem_cons_zero, List.getElem_cons_succ, Act.put, List.setIfInBounds_toArray, List.set_cons_zero, List.set_cons_succ]
          refine wpAnyH_take (i := 5) (v := ?v6) rfl (by kernel_rfl) (by kernel_rfl) (by kernel_rfl) (fun _ _ _ h => h) (Or.inl ⟨by rfl, ?hy6⟩) hS0 ?_
          case hy6 => (intro w' hw'; have c7 := keepC hw' hlx z7; have c0 := keepC hw' hly z0; have cn := keepC hw' hlp zn; go_simp; try with_reducible rfl)
          simp only [List.getElem_toArray, List.getElem_cons_zero, List.getElem_cons_succ, Act.put, List.setIfInBounds_toArray, List.set_cons_zero, List.set_cons_succ]
          refine wpAnyH_take (i := 6) (v := ?v7) rfl (by kernel_rfl) (by kernel_rfl) (by kernel_rfl) (fun _ _ _ h => h) (Or.inl ⟨by rfl, ?hy7⟩) hS0 ?_
          case hy7 => (intro w' hw'; have c7 := keepC hw' hlx z7; have c0 := keepC hw' hly z0; have cn := keepC hw' hlp zn; go_simp; try with_reducible rfl)
          simp only [List.getElem_toArray, List.getElem_cons_zero, List.getElem_cons_succ, Act.put, List.setIfInBounds_toArray, List.set_cons_zero, List.set_cons_succ]
          refine wpAnyH_take (i := 7) (v := ?v8) rfl (by kernel_rfl) (by kernel_rfl) (by kernel_rfl) (fun _ _ _ h => h) (Or.inl ⟨by rfl, ?hy8⟩) hS0 ?_
          case hy8 => (intro w' hw'; have c7 := keepC hw' hlx z7; have c0 := keepC hw' hly z0; have cn := keepC hw' hlp zn; go_simp; try with_reducible rfl)
          simp only [List.getElem_toArray, List.getElem_cons_zero, List.getElem_cons_succ, Act.put, List.setIfInBounds_toArray, List.set_cons_zero, List.set_cons_succ]
          by_cases heq : nk = nm
          · subst heq
            refine wpAnyH_take (i := 8) (v := ?v9) rfl (by kernel_rfl) (by kernel_rfl) (by kernel_rfl) (fun _ _ _ h => h) (Or.inl ⟨by rfl, ?hy9⟩) hS0 ?_
            case hy9 => (intro w' hw'; have c7 := keepC hw' hlx z7; have c0 := keepC hw' hly z0; have cn := keepC hw' hlp zn; go_simp; try with_reducible rfl)
            simp only [List.getElem_toArray, List.getElem_cons_zero, List.getElem_cons_succ, Act.put, List.setIfInBounds_toArray, List.set_cons_zero, List.set_cons_succ]
            refine wpAnyH_done (by kernel_rfl) ?_ _; refine NoPanic.normal ?_
            have hB1 : Below w1.heap.size w1 { wr with drawn := wr.drawn + 1 } := hB.drew
            generalize ({ wr with drawn := wr.drawn + 1 } : World) = W1 at *
            go_wp2
            go_ret
            refine ⟨bb1.trans (hB1.mono bb1.size), ?_⟩
            have hfi : fls.list.findIdx? (fun q => decide (q.1 = nk)) = some k := findIdx_some (unhide Hg) (by simp) (fun i q hi hq => by simpa using hno i q hi hq)
            have hR := unhide HR
            rw [hfi] at hR
            rw [hR]; rfl
          · have hbq : (nk.toList == nm.toList) = false := by simpa using fun e => heq (bytesExt e)
            refine wpAnyH_take (i := 8) (v := ?v10) rfl (by kernel_rfl) (by kernel_rfl) (by kernel_rfl) (fun _ _ _ h => h) (Or.inl ⟨by rfl, ?hy10⟩) hS0 ?_
            case hy10 => (intro w' hw'; have c7 := keepC hw' hlx z7; have c0 := keepC hw' hly z0; have cn := keepC hw' hlp zn; go_simp; try with_reducible rfl)
            simp only [List.getElem_toArray, List.getElem_cons_zero, List.getElem_cons_succ, Act.put, List.setIfInBounds_toArray, List.set_cons_zero, List.set_cons_succ]
            refine wpAnyH_done (by kernel_rfl) ?_ _; refine NoPanic.normal ?_
            have hB1 : Below w1.heap.size w1 { wr with drawn := wr.drawn + 1 } := hB.drew
            generalize ({ wr with drawn := wr.drawn + 1 } : World) = W1 at *
            go_wp2
            refine ⟨⟨k + 1, by omega, by go_num, fun i q hi hq => ?_, hB1⟩, by simp only [intOf]; omega⟩
            by_cases hik : i = k
            · subst hik
              have := Option.some.inj (hq.symm.trans (unhide Hg))
              rw [this]
              exact heq
            · exact hno i q (by omega) hq
        · obtain rfl : k = nf := by omega
          go_wp2
          go_ret
          refine ⟨bb1.trans (hB.mono bb1.size), ?_⟩
          have hfi : fls.list.findIdx? (fun q => decide (q.1 = nm)) = none := findIdx_none (fun i q hq => by
            have hi : i < k := by rw [← hlenF]; exact (List.getElem?_eq_some_iff.1 hq).1
            simpa using hno i q hi hq)
          have hR := unhide HR
          rw [hfi] at hR
          rw [hR]; rfl
    · have hb6 : (k == 6) = false := by simpa using h6
      rw [if_neg (fun h => h6 (hk6.2 h))] at hR
      obtain rfl : R = -1 := hR
      clear hk5 hk6 h6 hlen hlenF hI hF
      go_wp2
      go_ret
      exact ⟨bb1, rfl⟩
end Go.Proofs.Ytjlafneklcfgoab.vl
