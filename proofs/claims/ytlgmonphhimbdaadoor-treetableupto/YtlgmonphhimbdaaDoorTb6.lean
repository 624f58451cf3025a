import Derived.Test.YtlgmonphhimbdaaDoorTb5
namespace Go.Proofs.YtlgmonphhimbdaaDoor.tab
open Go.ChangeShapes Go.WideShapes Go.ChangeAt Go.RowKit Go.Maps
set_option linter.unusedVariables false
/-- the rows ahead of one, laid one place further on -/
theorem front_run {w : World} {g off p cap i : Nat} {rs : List Rw} (hl : rs.length = p + 1) (hi : i < p) (hc : p + 1 ≤ cap) (hr : w.rangeAt g off (flat rs)) (ht : w.there g off (cap * 3)) (c1 c2 : Nat) (ty : TypeId) :
    ∃ W, (Builtin.copy_ #[37, 37] ty #[.slice (some ⟨g, off + 3, none⟩) i c1, .slice (some ⟨g, off, none⟩) i c2]).run Tryd.prog w.drew = .ok (.int .i64 (i : Nat)) W ∧ W.rangeAt g (off + 3) (flat (rs.eraseIdx i)) ∧ W.there g off (cap * 3) ∧ Kx (· = g) w W ∧ (∀ k, IsC w k → IsC W k) ∧ W.heap.size = w.heap.size := by
  obtain ⟨i0, hi0, hz0, hz1, hz2⟩ := info_parts infoR
  have htk := flat_take_len (rs := rs) (i := i) (by omega)
  have hr1 := hr
  rw [flat_split i, ra_app] at hr1
  have hrun := run_copyK (P := Tryd.prog) w.drew 37 37 ty 45 i0 g (off + 3) i c1 ⟨g, off, none⟩ i c2 (flat (rs.take i)) Tryd.underlying37 hi0 (by rw [hz1, htk, show i.min i = i from Nat.min_self i]) (fun j u hj => by rw [Addr.add_lit, World.cell?_drew]; exact hr1.1 j u hj)
    (fun j hj => by rw [World.cell?_drew]; have := (ht (3 + j) (by omega)).1; rwa [← Nat.add_assoc] at this) (fun j hj => by rw [World.frozen?_drew]; have := (ht (3 + j) (by omega)).2; rwa [← Nat.add_assoc] at this) (flat_one _)
  rw [show i.min i = i from Nat.min_self i] at hrun
  refine ⟨_, hrun, ?_, World.there_setCells (w := w.drew) (by simpa using ht) _ _ _, ?_, fun k hk => cells_setCells _ _ _ hk, by rw [size_setCells]; rfl⟩
  · rw [erase_eq, flat_app, ra_app, htk]
    have hr2 := hr
    rw [flat_split (i + 1), ra_app, flat_take_len (by omega)] at hr2
    refine ⟨World.rangeAt_setCells_same _ g _ _ (fun j hj => ?_), ?_⟩
    · have := ht (3 + j) (by omega)
      rw [World.cell?_drew, World.frozen?_drew]
      rwa [← Nat.add_assoc] at this
    · have e : off + 3 + i * 3 = off + (i + 1) * 3 := by omega
      rw [e]
      exact World.rangeAt_setCells_apart (w := w.drew) (by simpa using hr2.2) _ _ _ (.inr (.inr (by omega)))
  · have := Kx.setCells (X := (· = g)) w.drew rfl (off + 3) (flat (rs.take i))
    exact ⟨this.os, this.tape, this.output, this.size, this.block⟩
theorem front_fin {g off p cap i : Nat} {rs : List Rw} {w W : World} {vs : List Value} (hv : vs.length = 1 * 3) (hl : rs.length = p + 1) (hi : i < p) (hc : p + 1 ≤ cap) (hm : cap ≤ maxLen) (R : W.rangeAt g (off + 3) (flat (rs.eraseIdx i)) ∧ W.there g off (cap * 3) ∧ Kx (· = g) w W ∧ (∀ k, IsC w k → IsC W k)) : CtPost g rs i p w (.returned (.slice (some ⟨g, off + 3, none⟩) p (cap - 1))) (W.setCells g off vs) := by
  obtain ⟨w1, w2, w3, w4⟩ := R
  refine ⟨off + 3, cap - 1, rfl, by omega, by omega, World.rangeAt_setCells_apart w1 _ _ _ (.inr (.inr (by omega))), World.there_setCells ?_ _ _ _, w3.trans (Kx.setCells (X := (· = g)) W rfl _ _) (fun i hi => .inl hi), fun k hk => cells_setCells _ _ _ (w4 k hk)⟩
  intro j hj
  have := w2 (3 + j) (by omega)
  rwa [← Nat.add_assoc] at this
set_option maxRecDepth 6000 in
theorem cut_ok (g off p cap i : Nat) (rs : List Rw) (w : World) (hl : Hid (rs.length = p + 1)) (hi : i < p + 1) (hc : p + 1 ≤ cap) (hb : p ≤ 1099511627776) (hm : cap ≤ maxLen) (hr : Hid (w.rangeAt g off (flat rs))) (ht : Hid (w.there g off (cap * 3))) :
    Calls Tryd.prog 27 #[.slice (some ⟨g, off, none⟩) (p + 1) cap, .int .i64 (i : Nat)] w (CtPost g rs i p w) := by
  obtain ⟨q, hq⟩ : ∃ q : Nat, q = (p + 1) / 2 := ⟨_, rfl⟩
  have e : Int.tdiv ((p : Int) + 1) 2 = (q : Int) := by
    rw [Int.tdiv_eq_ediv_of_nonneg (by omega)]
    omega
  have hqb : q ≤ 1099511627776 := by omega
  by_cases hge : q ≤ i
  · have h1 : (q : Int) ≤ (i : Int) := by omega
    have DL := hide (del_ok g off p cap i rs w hl hi hc hb hm hr ht)
    clear hq
    go_enter Tryd.func27, Tryd.ntmps27
    go_wp2_with fail
    refine (unhide DL).mono ?_
    rintro e w1 ⟨off', cap', rfl, R⟩
    have R := hide R
    go_wp2
    go_ret
    exact ⟨off', cap', rfl, unhide R⟩
  · have h1 : ¬ (q : Int) ≤ (i : Int) := by omega
    have hip : i < p := by omega
    have h0 : (0 : Int) ≤ (i : Int) + 1 := by omega
    have h2 : (i : Int) + 1 ≤ (cap : Int) := by omega
    have h3 : (i : Int) ≤ (cap : Int) := by omega
    have h4 : ¬ cap = 1 := by omega
    have h5 : ¬ cap = 0 := by omega
    have h6 : (1 : Int) ≤ (i : Int) + 1 := by omega
    have h7 : (1 : Int) ≤ (p : Int) + 1 := by omega
    have h8 : (1 : Int) ≤ (cap : Int) := by omega
    have hw : IntKind.i64.wrap ((i : Int) + 1) = (i : Int) + 1 := IntWalk.i64_in _ ⟨by omega, by omega⟩
    have hmx : (1 : Int) ≤ max ((i : Int) + 1) 0 := by omega
    have htn : ((i : Int) + 1).toNat = i + 1 := by omega
    obtain ⟨W, hrun, w1, w2, w3, w4, w5⟩ := front_run (unhide hl) hip hc (unhide hr) (unhide ht) (cap - 1) cap 3
    have R1 := hide (⟨w1, w2, w3, w4⟩ : W.rangeAt g (off + 3) (flat (rs.eraseIdx i)) ∧ W.there g off (cap * 3) ∧ Kx (· = g) w W ∧ (∀ k, IsC w k → IsC W k))
    obtain ⟨vs, hvs, hcl⟩ := run_clearR W 0 g off 1 cap (by decide) (fun j hj => w2 j (by omega))
    have HV := hide hvs
    clear w1 w2 w3 w4 w5 hvs hq
    go_enter Tryd.func27, Tryd.ntmps27
    go_wp2_with fail
    go_region_law (refine step_cpy rfl _ _ 37 37 rfl (.slice (some ⟨g, off + 3, none⟩) i (cap - 1)) (.slice (some ⟨g, off, none⟩) i cap) (by simp [Act.eval, Act.put]) (by simp [Act.eval, Act.put]) (.int .i64 (i : Nat)) W hrun ?_)
    all_goals go_wp2_with (at_builtin; refine wpl_clear rfl _ 37 rfl (.slice (some ⟨g, off, none⟩) 1 cap) (by simp [Act.eval]) _ _ hcl ?_)
    all_goals go_ret
    all_goals exact front_fin (unhide HV) (unhide hl) hip hc hm (unhide R1)
end Go.Proofs.YtlgmonphhimbdaaDoor.tab
