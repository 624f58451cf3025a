import Derived.Test.YtjlafneklcfgoabVlC1
namespace Go.Proofs.Ytjlafneklcfgoab.vl
open Go.ChangeShapes Go.WideShapes Go.ChangeAt Go.RowKit
open stp (St Pth St3)
set_option linter.unusedVariables false
set_option linter.unusedSimpArgs false
theorem bytesExt {a b : ByteArray} (h : a.toList = b.toList) : a = b := by
  rw [Lib.toList_data, Lib.toList_data] at h
  obtain ⟨⟨x⟩⟩ := a
  obtain ⟨⟨y⟩⟩ := b
  simp at h
  rw [h]
theorem findIdx_some {α : Type} {f : α → Bool} : ∀ {l : List α} {k : Nat} {x : α}, l[k]? = some x → f x = true → (∀ i y, i < k → l[i]? = some y → f y = false) → l.findIdx? f = some k
  | [], k, x, h, _, _ => by simp at h
  | y :: r, 0, x, h, hx, _ => by simp at h; subst h; simp [List.findIdx?_cons, hx]
  | y :: r, k + 1, x, h, hx, hn => by
    have h0 := hn 0 y (by omega) rfl
    have := findIdx_some (f := f) (l := r) (by simpa using h) hx (fun i z hi hz => hn (i + 1) z (by omega) (by simpa using hz))
    simp [List.findIdx?_cons, h0, this]
theorem findIdx_none {α : Type} {f : α → Bool} : ∀ {l : List α}, (∀ (i : Nat) (y : α), l[i]? = some y → f y = false) → l.findIdx? f = none
  | [], _ => rfl
  | y :: r, hn => by
    have h0 : f y = false := hn 0 y rfl
    have := findIdx_none (f := f) (l := r) (fun i z hz => hn (i + 1) z (by simpa using hz))
    simp [List.findIdx?_cons, h0, this]
set_option maxHeartbeats 6000000 in
set_option maxRecDepth 6000 in
theorem child_name (b o : Nat) (kd : Int) (af : Option Addr) (n c : Nat) (fls : Fls) (nm : ByteArray) (ix : Int) (w : World) (hb : b < w.heap.size) (x0 : w.cell? ⟨b, o, none⟩ = some (.int .i64 kd)) (x7 : w.cell? ⟨b, o + 7, none⟩ = some (.slice af n c)) (hF : FlsAt w fls af n) (hn : n ≤ 9223372036854775807) :
    Calls Try.prog 57 #[.pointer (some ⟨b, o, none⟩), .agg #[.string nm, .int .i64 ix, .bool false]] w fun e w' => Below w.heap.size w w' ∧ ((kd = 6 ∧ ∃ j p off, af = some ⟨p, off, none⟩ ∧ fls.list.findIdx? (fun q => decide (q.1 = nm)) = some j ∧ e = .returned (.pointer (some ⟨p, off + j * 9 + 1, none⟩))) ∨ ((kd ≠ 6 ∨ fls.list.findIdx? (fun q => decide (q.1 = nm)) = none) ∧ e = .returned (.pointer none))) := by
  obtain ⟨W, eW⟩ : ∃ W, W = w.alloc (.cells #[.string nm, .int .i64 ix, .bool false] 33) := ⟨_, rfl⟩
  have y0 : W.cell? ⟨b, o, none⟩ = some (.int .i64 kd) := by rw [eW]; exact (World.cell?_alloc_past _ _ _ hb).trans x0
  have y7 : W.cell? ⟨b, o + 7, none⟩ = some (.slice af n c) := by rw [eW]; exact (World.cell?_alloc_past _ _ _ hb).trans x7
  have s0 : W.cell? ⟨w.heap.size, 0, none⟩ = some (.string nm) := by rw [eW]; simp
  have bW : Below w.heap.size w W := by rw [eW]; exact (Below.refl _ _).alloc (Nat.le_refl _) _
  have EW := hide eW
  clear eW
  by_cases h6 : kd = 6
  · subst h6
    go_enter Try.func57, Try.ntmps57
    go_wp2_with fail
    rw [← unhide EW]
    have hsz : w.heap.size < W.heap.size := by rw [unhide EW]; simp
    clear EW x0 x7
    go_loopw [45] (fun vi wr => ∃ k : Nat, k ≤ n ∧ vi = .int .i64 k ∧ (∀ i q, i < k → fls.list[i]? = some q → q.1 ≠ nm) ∧ Below W.heap.size W wr) (fun vi _ => n - (intOf vi).toNat)
    case atStart => exact ⟨0, Nat.zero_le _, rfl, fun i q hi => absurd hi (Nat.not_lt_zero _), Below.refl _ _⟩
    case round =>
      obtain ⟨k, hk, rfl, hno, hB⟩ := hrel
      by_cases hlt : k < n
      · have ki : (k : Int) < (n : Int) := by omega
        obtain ⟨p, off, nk, v, cs, rfl, hg, hn0, -, -, -⟩ := FlsAt.get fls _ n hF k hlt
        have z7 := keepC hB (Nat.lt_trans hb hsz) y7
        have z0 := keepC hB hsz s0
        have zn := keepC hB (Nat.lt_of_lt_of_le (World.block_lt_of_cell? w _ hn0) bW.size) (keepC bW (World.block_lt_of_cell? w _ hn0) hn0)
        have HB := hide hB
        have Hg := hide hg
        clear y0 y7 s0 hn0 hB hg
        go_wp2_with fail
        have hS0 : ({ wr with drawn := wr.drawn + 1 } : World).cell? ⟨b, o + 7, none⟩ = some (.slice (some ⟨p, off, none⟩) n c) ∧ ({ wr with drawn := wr.drawn + 1 } : World).cell? ⟨w.heap.size, 0, none⟩ = some (.string nm) ∧ ({ wr with drawn := wr.drawn + 1 } : World).cell? ⟨p, off + k * 9, none⟩ = some (.string nk) := ⟨z7, z0, zn⟩
        clear z7 z0 zn
        refine wp_region_noPanic ?_
        refine wp_region_held (S := fun w' => w'.cell? ⟨b, o + 7, none⟩ = some (.slice (some ⟨p, off, none⟩) n c) ∧ w'.cell? ⟨w.heap.size, 0, none⟩ = some (.string nm) ∧ w'.cell? ⟨p, off + k * 9, none⟩ = some (.string nk)) mixed ?_
        refine wpAnyH_take (i := 0) (v := ?v1) rfl (by kernel_rfl) (by kernel_rfl) (by kernel_rfl) (fun _ _ _ h => h) (Or.inl ⟨by rfl, ?hy1⟩) hS0 ?_
        case hy1 => (intro w' hw'; obtain ⟨c7, c0, cn⟩ := hw'; go_simp; try with_reducible rfl)
        simp only [List.getElem_toArray, List.getElem_cons_zero, List.getElem_cons_succ, Act.put, List.setIfInBounds_toArray, List.set_cons_zero, List.set_cons_succ]
        refine wpAnyH_take (i := 1) (v := ?v2) rfl (by kernel_rfl) (by kernel_rfl) (by kernel_rfl) (fun _ _ _ h => h) (Or.inl ⟨by rfl, ?hy2⟩) hS0 ?_
        case hy2 => (intro w' hw'; obtain ⟨c7, c0, cn⟩ := hw'; go_simp; try with_reducible rfl)
        simp only [List.getElem_toArray, List.getElem_cons_zero, List.getElem_cons_succ, Act.put, List.setIfInBounds_toArray, List.set_cons_zero, List.set_cons_succ]
        refine wpAnyH_take (i := 2) (v := ?v3) rfl (by kernel_rfl) (by kernel_rfl) (by kernel_rfl) (fun _ _ _ h => h) (Or.inl ⟨by rfl, ?hy3⟩) hS0 ?_
        case hy3 => (intro w' hw'; obtain ⟨c7, c0, cn⟩ := hw'; go_simp; try with_reducible rfl)
        simp only [List.getElem_toArray, List.getElem_cons_zero, List.getElem_cons_succ, Act.put, List.setIfInBounds_toArray, List.set_cons_zero, List.set_cons_succ]
        refine wpAnyH_take (i := 3) (v := ?v4) rfl (by kernel_rfl) (by kernel_rfl) (by kernel_rfl) (fun _ _ _ h => h) (Or.inl ⟨by rfl, ?hy4⟩) hS0 ?_
        case hy4 => (intro w' hw'; obtain ⟨c7, c0, cn⟩ := hw'; go_simp; try with_reducible rfl)
        simp only [List.getElem_toArray, List.getElem_cons_zero, List.getElem_cons_succ, Act.put, List.setIfInBounds_toArray, List.set_cons_zero, List.set_cons_succ]
        refine wpAnyH_take (i := 4) (v := ?v5) rfl (by kernel_rfl) (by kernel_rfl) (by kernel_rfl) (fun _ _ _ h => h) (Or.inl ⟨by rfl, ?hy5⟩) hS0 ?_
        case hy5 => (intro w' hw'; obtain ⟨c7, c0, cn⟩ := hw'; go_simp; try with_reducible rfl)
        simp only [List.getElem_toArray, List.getElem_cons_zero, List.getElem_cons_succ, Act.put, List.setIfInBounds_toArray, List.set_cons_zero, List.set_cons_succ]
        refine wpAnyH_take (i := 5) (v := ?v6) rfl (by kernel_rfl) (by kernel_rfl) (by kernel_rfl) (fun _ _ _ h => h) (Or.inl ⟨by rfl, ?hy6⟩) hS0 ?_
        case hy6 => (intro w' hw'; obtain ⟨c7, c0, cn⟩ := hw'; go_simp; try with_reducible rfl)
        simp only [List.getElem_toArray, List.getElem_cons_zero, List.getElem_cons_succ, Act.put, List.setIfInBounds_toArray, List.set_cons_zero, List.set_cons_succ]
        refine wpAnyH_take (i := 6) (v := ?v7) rfl (by kernel_rfl) (by kernel_rfl) (by kernel_rfl) (fun _ _ _ h => h) (Or.inl ⟨by rfl, ?hy7⟩) hS0 ?_
        case hy7 => (intro w' hw'; obtain ⟨c7, c0, cn⟩ := hw'; go_simp; try with_reducible rfl)
        simp only [List.getElem_toArray, List.getElem_cons_zero, List.getElem_cons_succ, Act.put, List.setIfInBounds_toArray, List.set_cons_zero, List.set_cons_succ]
        refine wpAnyH_take (i := 7) (v := ?v8) rfl (by kernel_rfl) (by kernel_rfl) (by kernel_rfl) (fun _ _ _ h => h) (Or.inl ⟨by rfl, ?hy8⟩) hS0 ?_
        case hy8 => (intro w' hw'; obtain ⟨c7, c0, cn⟩ := hw'; go_simp; try with_reducible rfl)
        simp only [List.getElem_toArray, List.getElem_cons_zero, List.getElem_cons_succ, Act.put, List.setIfInBounds_toArray, List.set_cons_zero, List.set_cons_succ]
        refine wpAnyH_take (i := 8) (v := ?v9) rfl (by kernel_rfl) (by kernel_rfl) (by kernel_rfl) (fun _ _ _ h => h) (Or.inl ⟨by rfl, ?hy9⟩) hS0 ?_
        case hy9 => (intro w' hw'; obtain ⟨c7, c0, cn⟩ := hw'; go_simp; try with_reducible rfl)
        simp only [List.getElem_toArray, List.getElem_cons_zero, List.getElem_cons_succ, Act.put, List.setIfInBounds_toArray, List.set_cons_zero, List.set_cons_succ]
        refine wpAnyH_take (i := 9) (v := ?v10) rfl (by kernel_rfl) (by kernel_rfl) (by kernel_rfl) (fun _ _ _ h => h) (Or.inl ⟨by rfl, ?hy10⟩) hS0 ?_
        case hy10 => (intro w' hw'; obtain ⟨c7, c0, cn⟩ := hw'; go_simp; try with_reducible rfl)
        simp only [List.getElem_toArray, List.getElem_cons_zero, List.getElem_cons_succ, Act.put, List.setIfInBounds_toArray, List.set_cons_zero, List.set_cons_succ]
        by_cases heq : nk = nm
        · subst heq
          refine wpAnyH_take (i := 10) (v := ?v11) rfl (by kernel_rfl) (by kernel_rfl) (by kernel_rfl) (fun _ _ _ h => h) (Or.inl ⟨by rfl, ?hy11⟩) hS0 ?_
          case hy11 => (intro w' hw'; obtain ⟨c7, c0, cn⟩ := hw'; go_simp; try with_reducible rfl)
          simp only [List.getElem_toArray, List.getElem_cons_zero, List.getElem_cons_succ, Act.put, List.setIfInBounds_toArray, List.set_cons_zero, List.set_cons_succ]
          refine wpAnyH_done (by kernel_rfl) ?_ _; refine NoPanic.normal ?_
          have hB1 : Below W.heap.size W { wr with drawn := wr.drawn + 1 } := (unhide HB).drew
          generalize ({ wr with drawn := wr.drawn + 1 } : World) = W1 at *
          obtain ⟨z7, z0, zn⟩ := hS0
          go_wp2
          go_ret
          refine ⟨bW.trans (hB1.mono bW.size), .inl ⟨(by first | rfl | trivial), k, p, off, rfl, ?_, rfl⟩⟩
          exact findIdx_some (unhide Hg) (by simp) (fun i q hi hq => by simpa using hno i q hi hq)
        · have hbq : (nk.toList == nm.toList) = false := by simpa using fun e => heq (bytesExt e)
          refine wpAnyH_take (i := 10) (v := ?v12) rfl (by kernel_rfl) (by kernel_rfl) (by kernel_rfl) (fun _ _ _ h => h) (Or.inl ⟨by rfl, ?hy12⟩) hS0 ?_
          case hy12 => (intro w' hw'; obtain ⟨c7, c0, cn⟩ := hw'; go_simp; try with_reducible rfl)
          simp only [List.getElem_toArray, List.getElem_cons_zero, List.getElem_cons_succ, Act.put, List.setIfInBounds_toArray, List.set_cons_zero, List.set_cons_succ]
          refine wpAnyH_done (by kernel_rfl) ?_ _; refine NoPanic.normal ?_
          have hB1 : Below W.heap.size W { wr with drawn := wr.drawn + 1 } := (unhide HB).drew
          generalize ({ wr with drawn := wr.drawn + 1 } : World) = W1 at *
          obtain ⟨z7, z0, zn⟩ := hS0
          go_wp2
          refine ⟨⟨k + 1, by omega, by go_num, fun i q hi hq => ?_, hB1⟩, by simp only [intOf]; omega⟩
          by_cases hik : i = k
          · subst hik
            have := Option.some.inj (hq.symm.trans (unhide Hg))
            rw [this]
            exact heq
          · exact hno i q (by omega) hq
      · obtain rfl : k = n := by omega
        go_wp2
        go_ret
        refine ⟨bW.trans (hB.mono bW.size), .inr ⟨.inr ?_, rfl⟩⟩
        exact findIdx_none (fun i q hq => by
          have hi : i < k := by rw [← FlsAt.len fls _ _ hF]; exact (List.getElem?_eq_some_iff.1 hq).1
          simpa using hno i q hi hq)
  · have hd6 : (kd != 6) = true := by simpa using h6
    go_enter Try.func57, Try.ntmps57
    go_wp2
    go_ret
    exact ⟨(Below.refl _ _).alloc (Nat.le_refl _) _, .inr ⟨.inl h6, rfl⟩⟩
end Go.Proofs.Ytjlafneklcfgoab.vl
