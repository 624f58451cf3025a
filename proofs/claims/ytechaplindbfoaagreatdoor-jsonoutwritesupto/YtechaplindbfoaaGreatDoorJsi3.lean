import Derived.Test.YtechaplindbfoaaGreatDoorJsi2
namespace Go.Proofs.YtechaplindbfoaaGreatDoor.mem
open Go.ChangeShapes Go.WideShapes Go.ChangeAt Go.RowKit
open ints (hide unhide)
set_option linter.unusedVariables false

theorem Row.drop {k : IntKind} {w : World} {b off n c : Nat} {l : List Int} (h : Row k w (some ⟨b, off, none⟩) n c l) {m : Nat} (hm : m ≤ n) (hbw : b < w.heap.size) (hcell : ∀ i, i < n → w.cell? ⟨b, off + i, none⟩ = some (.int k (l.getD i 0))) :
    Row k w (some ⟨b, off + m, none⟩) (n - m) (c - m) (l.drop m) := by
  refine ⟨by simp [h.len], by have := h.le; omega, (fun e => by cases e), .inr ⟨b, off + m, rfl, hbw, fun i hi => ?_⟩⟩
  rw [Nat.add_assoc, hcell (m + i) (by omega), drop_getD]
theorem cell_one (w : World) (x : Value) (t : TypeId) : ∀ j u, [x][j]? = some u → (w.alloc (.cells #[x] t)).cell? ((⟨w.heap.size, 0, none⟩ : Addr).add j) = some u := by
  intro j u hj
  match j, hj with
  | 0, hj => simp at hj; subst hj; simp [Addr.add]
  | (j + 1), hj => simp at hj
set_option maxHeartbeats 2000000 in
theorem rdecode_any (a : Option Addr) (n c : Nat) (l : List Int) (w : World) (h : Row .u8 w a n c l) (hz : Byt l) (hn : 4 * n ≤ 140737488355328) :
    Calls Tryz.prog 89 #[.slice a n c] w fun e w' => ∃ v, e = .returned (.tuple #[v, .int .i64 ((decZ l).2 : Int)]) ∧
      w'.ownsRow w.heap.size 21 1 v (decZ l).1.length ((decZ l).1.map (Value.int .i32)) ∧ Below w.heap.size w w' := by
  obtain ⟨i0, hi, hz0, hz1, hz2⟩ := info_parts info32
  go_enter Tryz.func89, Tryz.ntmps89
  go_wp2
  go_loopw [4, 5] (fun v i wr => ∃ (pos f : Nat) (acc : List Int), pos ≤ n ∧ n - pos ≤ f ∧ i = .int .i64 pos ∧ wr.ownsRow w.heap.size 21 1 v acc.length (acc.map (Value.int .i32)) ∧ acc.length ≤ pos ∧
      Hid (acc ++ (decF f (l.drop pos)).1 = (decZ l).1) ∧ Hid (pos + (decF f (l.drop pos)).2 = (decZ l).2) ∧ Below w.heap.size w wr) (fun _ i _ => n - (intOf i).toNat)
  case atStart => exact ⟨0, l.length, [], Nat.zero_le _, by rw [h.len]; omega, rfl, World.ownsRow_nil _ _ _ _, Nat.le_refl _, hide (by simp [decZ]), hide (by simp [decZ]), Below.refl _ _⟩
  case round =>
    obtain ⟨pos, f, acc, hpn, hf, rfl, hown, hacc, hA, hB, hbel⟩ := hrel
    by_cases hlt : pos < n
    · rcases h.at_ with h0 | ⟨b, off, rfl, hbw, hcell⟩
      · omega
      have hr := (h.below hbel).drop (m := pos) (by omega) (Nat.lt_of_lt_of_le hbw hbel.size) (fun i hi => (hbel.cell (p := ⟨b, off + i, none⟩) hbw).trans (hcell i hi))
      have hle := h.le
      have O := hide (one_any _ _ _ _ wr hr (byt_drop hz pos) (by omega))
      obtain ⟨x, hx⟩ : ∃ x, x = (oneL (l.drop pos)).1 := ⟨_, rfl⟩
      obtain ⟨d, hd⟩ : ∃ d, d = (oneL (l.drop pos)).2 := ⟨_, rfl⟩
      rw [← hx, ← hd] at O
      have hdl := oneL_le (l.drop pos)
      rw [← hd, List.length_drop, h.len] at hdl
      have hcp : ¬ c = pos := by omega
      have pni : (pos : Int) < (n : Int) := by omega
      by_cases h0 : d = 0
      · have hfin := hide (show decF f (l.drop pos) = ([], 0) from decF_end _ _ (by rw [← hd]; exact h0))
        have hbz : ((d : Int) == 0) = true := by simp; omega
        have e1 := hide (show (decZ l).1 = acc from by have := unhide hA; rw [unhide hfin] at this; simpa using this.symm)
        have e2 := hide (show (decZ l).2 = pos from by have := unhide hB; rw [unhide hfin] at this; simpa using this.symm)
        have Hown := hide hown
        clear hx hd h0 hcell hr hA hB hfin hown
        go_wp2_with fail
        refine (unhide O).mono ?_
        rintro e w1 ⟨rfl, hb1⟩
        clear O
        go_wp2
        go_ret2
        rw [unhide e1, unhide e2]
        exact ⟨_, rfl, own_below (unhide Hown) hb1, hbel.trans (hb1.mono hbel.size)⟩
      · have hbz : ((d : Int) == 0) = false := by simp; omega
        obtain ⟨f', rfl⟩ : ∃ f', f = f' + 1 := ⟨f - 1, by omega⟩
        have hgo := decF_go f' (l.drop pos) (by rw [← hd]; exact h0)
        rw [← hd, ← hx, List.drop_drop] at hgo
        have e1 := hide (show (acc ++ [x]) ++ (decF f' (l.drop (pos + d))).1 = (decZ l).1 from by have := unhide hA; rw [hgo] at this; simpa using this)
        have e2 := hide (show pos + d + (decF f' (l.drop (pos + d))).2 = (decZ l).2 from by have := unhide hB; rw [hgo] at this; simp only at this; omega)
        have Hown := hide hown
        have d1 : 1 ≤ d := by omega
        clear hx hd h0 hcell hr hA hB hgo hown
        go_wp2_with fail
        refine (unhide O).mono ?_
        rintro e w1 ⟨rfl, hb1⟩
        clear O
        have hown1 := own_below (unhide Hown) hb1
        have hbel1 := hbel.trans (hb1.mono hbel.size)
        have hcel := cell_one w1 (.int .i32 x) 21
        have Hlt := hide hown1.lt
        clear Hown hb1 hbel
        go_wp2_with (at_builtin; refine wpList_append_own _ rfl _ _ 129 rfl w.heap.size 21 i0 (.int .i32 0) 1 4 Tryz.underlying129 hi hz0 hz1 hz2 rfl (by decide) _ _ _ rfl (hown1.alloc _) ⟨w1.heap.size, 0, none⟩ 1 1 [.int .i32 x] rfl (by simp) hcel (by intro u hu; simp at hu; subst hu; rfl) (by unfold maxLen; omega) (by omega) (by have := hbel1.size; simp; omega) ?_; intro v' w2 hown' hgrow _)
        go_roundw
        case rel =>
          refine ⟨pos + d, f', acc ++ [x], by omega, by omega, by go_num, by simpa using hown', by simp; omega, e1, e2, ?_⟩
          exact (hbel1.alloc hbel1.size _).grown hgrow (by have := hbel1.size; simp; omega) (fun k hk => (unhide Hlt k hk).1)
        case measure => simp [intOf]; omega
    · have hnil : l.drop pos = [] := List.drop_eq_nil_of_le (by rw [h.len]; omega)
      have hfin := hide (show decF f (l.drop pos) = ([], 0) from decF_end _ _ (by rw [hnil]; rfl))
      have e1 := hide (show (decZ l).1 = acc from by have := unhide hA; rw [unhide hfin] at this; simpa using this.symm)
      have e2 := hide (show (decZ l).2 = pos from by have := unhide hB; rw [unhide hfin] at this; simpa using this.symm)
      clear hnil hA hB hfin
      go_wp2
      go_ret2
      rw [unhide e1, unhide e2]
      exact ⟨_, rfl, hown, hbel⟩
end Go.Proofs.YtechaplindbfoaaGreatDoor.mem
