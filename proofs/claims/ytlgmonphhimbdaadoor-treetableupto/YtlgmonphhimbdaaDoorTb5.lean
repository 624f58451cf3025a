import Derived.Test.YtlgmonphhimbdaaDoorTb4
namespace Go.Proofs.YtlgmonphhimbdaaDoor.tab
open Go.ChangeShapes Go.WideShapes Go.ChangeAt Go.RowKit Go.Maps
set_option linter.unusedVariables false
theorem erase_eq {rs : List Rw} {i : Nat} : rs.eraseIdx i = rs.take i ++ rs.drop (i + 1) := List.eraseIdx_eq_take_drop_succ rs i
theorem flat_take_len {rs : List Rw} {i : Nat} (h : i ≤ rs.length) : (flat (rs.take i)).length = i * 3 := by rw [flat_len, List.length_take, Nat.min_eq_left h]
theorem flat_split {rs : List Rw} (i : Nat) : flat rs = flat (rs.take i) ++ flat (rs.drop i) := by rw [← flat_app, List.take_append_drop]
/-- what lies behind a row, laid over it -/
theorem del_run {w : World} {g off p cap i : Nat} {rs : List Rw} (hl : rs.length = p + 1) (hi : i < p + 1) (hc : p + 1 ≤ cap) (hr : w.rangeAt g off (flat rs)) (ht : w.there g off (cap * 3)) (ad : Addr) (c : Nat) (had : p = i ∨ ad = ⟨g, off + (i + 1) * 3, none⟩) (ty : TypeId) :
    ∃ W, (Builtin.append_ #[37, 37] ty #[.slice (some ⟨g, off, none⟩) i cap, .slice (some ad) (p - i) c]).run Tryd.prog w.drew = .ok (.slice (some ⟨g, off, none⟩) p cap) W ∧ W.rangeAt g off (flat (rs.eraseIdx i)) ∧ W.there g off (cap * 3) ∧ Kx (· = g) w W ∧ (∀ k, IsC w k → IsC W k) ∧ W.heap.size = w.heap.size := by
  obtain ⟨i0, hi0, hz0, hz1, hz2⟩ := info_parts infoR
  have hd : (flat (rs.drop (i + 1))).length = (p - i) * 3 := by rw [flat_len, List.length_drop]; omega
  have hsp := hr
  rw [flat_split (i + 1), ra_app, flat_take_len (by omega)] at hsp
  have hrun := run_append_room_cells (P := Tryd.prog) w.drew 37 ty 45 i0 Tryd.underlying37 hi0 g off i cap ad (p - i) c (flat (rs.drop (i + 1))) (by rw [hz1, hd]) (fun j u hj => by
      rcases had with h | h
      · have := (List.getElem?_eq_some_iff.1 hj).1
        omega
      · rw [h, Addr.add_lit, World.cell?_drew]
        exact hsp.2 j u hj) (flat_one _) (by omega)
    (fun j hj => by rw [hz1, World.cell?_drew]; have := (ht (i * 3 + j) (by omega)).1; rwa [← Nat.add_assoc] at this) (fun j hj => by rw [hz1, World.frozen?_drew]; have := (ht (i * 3 + j) (by omega)).2; rwa [← Nat.add_assoc] at this)
  rw [hz1, show i + (p - i) = p by omega] at hrun
  refine ⟨_, hrun, ?_, World.there_setCells (w := w.drew) (by simpa using ht) _ _ _, ?_, fun k hk => cells_setCells _ _ _ hk, by rw [size_setCells]; rfl⟩
  · rw [erase_eq, flat_app, ra_app, flat_take_len (by omega)]
    have hr1 := hr
    rw [flat_split i, ra_app] at hr1
    refine ⟨World.rangeAt_setCells_apart (w := w.drew) (by simpa using hr1.1) _ _ _ (.inr (.inl (by rw [flat_take_len (by omega)]; omega))), World.rangeAt_setCells_same _ g _ _ (fun j hj => ?_)⟩
    have := ht (i * 3 + j) (by omega)
    rw [World.cell?_drew, World.frozen?_drew]
    rwa [← Nat.add_assoc] at this
  · have := Kx.setCells (X := (· = g)) w.drew rfl (off + i * 3) (flat (rs.drop (i + 1)))
    exact ⟨this.os, this.tape, this.output, this.size, this.block⟩
/-- what cut and Delete leave -/
def CtPost (g : Nat) (rs : List Rw) (i p : Nat) (w : World) (e : Ending) (w' : World) : Prop :=
  ∃ off' cap', e = .returned (.slice (some ⟨g, off', none⟩) p cap') ∧ p ≤ cap' ∧ cap' ≤ maxLen ∧ w'.rangeAt g off' (flat (rs.eraseIdx i)) ∧ w'.there g off' (cap' * 3) ∧ Kx (· = g) w w' ∧ (∀ k, IsC w k → IsC w' k)
theorem del_fin {g off p cap i : Nat} {rs : List Rw} {w W : World} {vs : List Value} (hl : rs.length = p + 1) (hi : i < p + 1) (hc : p + 1 ≤ cap) (hm : cap ≤ maxLen) (R : W.rangeAt g off (flat (rs.eraseIdx i)) ∧ W.there g off (cap * 3) ∧ Kx (· = g) w W ∧ (∀ k, IsC w k → IsC W k)) : CtPost g rs i p w (.returned (.slice (some ⟨g, off, none⟩) p cap)) (W.setCells g (off + p * 3) vs) := by
  obtain ⟨w1, w2, w3, w4⟩ := R
  refine ⟨off, cap, rfl, by omega, hm, World.rangeAt_setCells_apart w1 _ _ _ (.inr (.inl ?_)), World.there_setCells w2 _ _ _, w3.trans (Kx.setCells (X := (· = g)) W rfl _ _) (fun i hi => .inl hi), fun k hk => cells_setCells _ _ _ (w4 k hk)⟩
  rw [flat_len, List.length_eraseIdx, if_pos (by omega), hl]
  omega
set_option maxRecDepth 6000 in
theorem del_a (g off p : Nat) (rs : List Rw) (w : World) (hl : Hid (rs.length = p + 1)) (hb : p ≤ 1099511627776) (hr : Hid (w.rangeAt g off (flat rs))) (ht : Hid (w.there g off ((p + 1) * 3))) :
    Calls Tryd.prog 32 #[.slice (some ⟨g, off, none⟩) (p + 1) (p + 1), .int .i64 (p : Nat), .int .i64 ((p : Int) + 1)] w (CtPost g rs p p w) := by
  have h1 : ¬ (p : Int) = (p : Int) + 1 := by omega
  have h0 : (0 : Int) ≤ (p : Int) + 1 := by omega
  have h3 : (p : Int) ≤ (p : Int) + 1 := by omega
  obtain ⟨W, hrun, w1, w2, w3, w4, w5⟩ := del_run (i := p) (unhide hl) (by omega) (by omega) (unhide hr) (unhide ht) ⟨g, off, none⟩ ((p + 1) - (p + 1)) (.inl rfl) 37
  rw [Nat.sub_self, Nat.sub_self] at hrun
  have R1 := hide (⟨w1, w2, w3, w4⟩ : W.rangeAt g off (flat (rs.eraseIdx p)) ∧ W.there g off ((p + 1) * 3) ∧ Kx (· = g) w W ∧ (∀ k, IsC w k → IsC W k))
  obtain ⟨vs, hvs, hcl⟩ := run_clearR W 0 g (off + p * 3) 1 1 (by decide) (fun j hj => by have := w2 (p * 3 + j) (by omega); rwa [← Nat.add_assoc] at this)
  have HV := hide hvs
  clear w1 w2 w3 w4 w5 hvs
  go_enter Tryd.func32, Tryd.ntmps32
  go_wp2_with fail
  go_region_law (refine step_app rfl _ _ 37 37 rfl (.slice (some ⟨g, off, none⟩) p (p + 1)) (.slice (some ⟨g, off, none⟩) 0 0) (by simp [Act.eval, Act.put]) (by simp [Act.eval, Act.put]) (.slice (some ⟨g, off, none⟩) p (p + 1)) W hrun ?_)
  all_goals go_wp2_with (at_builtin; refine wpl_clear rfl _ 37 rfl (.slice (some ⟨g, off + p * 3, none⟩) 1 1) (by simp [Act.eval]) _ _ hcl ?_)
  all_goals go_ret
  all_goals exact del_fin (unhide hl) (by omega) (by omega) (by simp only [maxLen]; omega) (unhide R1)
set_option maxRecDepth 6000 in
theorem del_b (g off p cap i : Nat) (rs : List Rw) (w : World) (hl : Hid (rs.length = p + 1)) (hi : i < p + 1) (hc : p + 1 ≤ cap) (hm : cap ≤ maxLen) (hb : p ≤ 1099511627776) (hce : ¬ cap = i + 1) (hr : Hid (w.rangeAt g off (flat rs))) (ht : Hid (w.there g off (cap * 3))) :
    Calls Tryd.prog 32 #[.slice (some ⟨g, off, none⟩) (p + 1) cap, .int .i64 (i : Nat), .int .i64 ((i : Int) + 1)] w (CtPost g rs i p w) := by
  have h1 : ¬ (i : Int) = (i : Int) + 1 := by omega
  have h0 : (0 : Int) ≤ (i : Int) + 1 := by omega
  have h2 : (i : Int) ≤ (p : Int) := by omega
  have h3 : (p : Int) + 1 ≤ (cap : Int) := by omega
  have h4 : (i : Int) ≤ (cap : Int) := by omega
  have h5 : (0 : Int) ≤ (p : Int) + 1 := by omega
  have h6 : ¬ cap = p := by omega
  have h7 : ¬ cap = 0 := by omega
  obtain ⟨W, hrun, w1, w2, w3, w4, w5⟩ := del_run (i := i) (unhide hl) hi hc (unhide hr) (unhide ht) ⟨g, off + (i + 1) * 3, none⟩ (cap - (i + 1)) (.inr rfl) 37
  have R1 := hide (⟨w1, w2, w3, w4⟩ : W.rangeAt g off (flat (rs.eraseIdx i)) ∧ W.there g off (cap * 3) ∧ Kx (· = g) w W ∧ (∀ k, IsC w k → IsC W k))
  obtain ⟨vs, hvs, hcl⟩ := run_clearR W 0 g (off + p * 3) 1 (cap - p) (by decide) (fun j hj => by have := w2 (p * 3 + j) (by omega); rwa [← Nat.add_assoc] at this)
  have HV := hide hvs
  clear w1 w2 w3 w4 w5 hvs
  go_enter Tryd.func32, Tryd.ntmps32
  go_wp2_with fail
  go_region_law (refine step_app rfl _ _ 37 37 rfl (.slice (some ⟨g, off, none⟩) i cap) (.slice (some ⟨g, off + (i + 1) * 3, none⟩) (p - i) (cap - (i + 1))) (by simp [Act.eval, Act.put]) (by simp [Act.eval, Act.put]) (.slice (some ⟨g, off, none⟩) p cap) W hrun ?_)
  all_goals go_wp2_with (at_builtin; refine wpl_clear rfl _ 37 rfl (.slice (some ⟨g, off + p * 3, none⟩) 1 (cap - p)) (by simp [Act.eval]) _ _ hcl ?_)
  all_goals go_ret
  all_goals exact del_fin (unhide hl) hi hc hm (unhide R1)
theorem del_ok (g off p cap i : Nat) (rs : List Rw) (w : World) (hl : Hid (rs.length = p + 1)) (hi : i < p + 1) (hc : p + 1 ≤ cap) (hb : p ≤ 1099511627776) (hm : cap ≤ maxLen) (hr : Hid (w.rangeAt g off (flat rs))) (ht : Hid (w.there g off (cap * 3))) :
    Calls Tryd.prog 32 #[.slice (some ⟨g, off, none⟩) (p + 1) cap, .int .i64 (i : Nat), .int .i64 ((i : Int) + 1)] w (CtPost g rs i p w) := by
  by_cases hce : cap = i + 1
  · obtain rfl : i = p := by omega
    subst hce
    exact del_a g off i rs w hl hb hr ht
  · exact del_b g off p cap i rs w hl hi hc hm hb hce hr ht
end Go.Proofs.YtlgmonphhimbdaaDoor.tab
