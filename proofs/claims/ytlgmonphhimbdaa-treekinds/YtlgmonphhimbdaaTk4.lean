import Derived.Test.YtlgmonphhimbdaaTk3
namespace Go.Proofs.Ytlgmonphhimbdaa.knd
open Go.ChangeShapes Go.WideShapes Go.ChangeAt Go.RowKit Go.Maps
set_option linter.unusedVariables false
def IsC (w : World) (k : Nat) : Prop := ∃ cs t fr, w.heap[k]? = some (Obj.cells cs t fr)
theorem IsC.same {w w' : World} {k : Nat} (h : IsC w k) (e : w'.heap[k]? = w.heap[k]?) : IsC w' k := by
  obtain ⟨cs, t, fr, h⟩ := h
  exact ⟨cs, t, fr, e.trans h⟩
theorem IsC.lt {w : World} {k : Nat} (h : IsC w k) : k < w.heap.size := by
  obtain ⟨cs, t, fr, h⟩ := h
  exact (Array.getElem?_eq_some_iff.1 h).1
/-- a new row's slice, of which all is written -/
theorem lie_own {w : World} {base : Nat} {e : TypeId} {v : Value} {n : Nat} {rs : List Rw} (h : w.ownsRow base e 5 v n (flat rs)) : Lie w (fun k => base ≤ k ∧ IsC w k) v rs := by
  obtain ⟨h1, h2⟩ := h
  have hn : n = rs.length := by rw [flat_len] at h1; omega
  subst hn
  rcases h2 with ⟨rfl, h0⟩ | ⟨g, cap, cur, rfl, hb, hg, hc, hm, hs, ht⟩
  · exact ⟨none, 0, by rw [h0], by omega, by decide, .inl ⟨rfl, rfl⟩⟩
  · refine ⟨_, cap, rfl, hc, hm, .inr ⟨g, 0, rfl, (Array.getElem?_eq_some_iff.1 hg).1, ⟨hb, cur, e, (0, 0), hg⟩, ?_, ?_⟩⟩
    · intro j u hu
      rw [cell_of_row w g (0 + j) cur e (0, 0) hg, Nat.zero_add]
      rw [← ht] at hu
      rw [List.getElem?_take] at hu
      split at hu
      · simpa using hu
      · cases hu
    · intro j hj
      rw [cell_of_row w g (0 + j) cur e (0, 0) hg, Nat.zero_add]
      refine ⟨?_, by simp [World.frozen?, hg]⟩
      rw [Array.getElem?_eq_getElem (by omega)]
      rfl
theorem news3 (w : World) (r : Rw) (t : TypeId) : ∀ j u, (flat [r])[j]? = some u → (w.alloc (.cells #[.int .i64 r.1, .int .i8 (p0 r.2.1), .int .i8 (p1 r.2.1), .bool (p2 r.2.1), .slice r.2.2.1 r.2.2.2.1 r.2.2.2.2] t)).drew.cell? ((⟨w.heap.size, 0, none⟩ : Addr).add j) = some u := by
  intro j u hj
  rw [World.cell?_drew]
  exact cells5 w _ _ _ _ _ t j u hj
theorem Lie.to {w w' : World} {Y : Nat → Prop} {v : Value} {rs : List Rw} (h : Lie w Y v rs) (e : w' = w) : Lie w' Y v rs := e ▸ h
/-- a row laid at the end -/
theorem app_row (w : World) (Y : Nat → Prop) (v : Value) (rs : List Rw) (r : Rw) (T ty : TypeId) (h : Lie w Y v rs) (hn : rs.length ≤ 1099511627776) :
    ∃ a5 c5 w5, (Builtin.append_ #[23, 23] ty #[v, .slice (some ⟨w.heap.size, 0, none⟩) 1 1]).run Try.prog (w.alloc (.cells #[.int .i64 r.1, .int .i8 (p0 r.2.1), .int .i8 (p1 r.2.1), .bool (p2 r.2.1), .slice r.2.2.1 r.2.2.2.1 r.2.2.2.2] T)).drew = .ok (.slice a5 (rs.length + 1) c5) w5 ∧
      Lie w5 (fun k => Y k ∨ (w.heap.size < k ∧ IsC w5 k)) (.slice a5 (rs.length + 1) c5) (rs ++ [r]) ∧ Kx Y w w5 ∧ (∀ k, IsC w k → IsC w5 k) := by
  obtain ⟨i0, hi0, hz0, hz1, hz2⟩ := info_parts infoR
  obtain ⟨W, hW⟩ : ∃ W, W = (w.alloc (.cells #[.int .i64 r.1, .int .i8 (p0 r.2.1), .int .i8 (p1 r.2.1), .bool (p2 r.2.1), .slice r.2.2.1 r.2.2.2.1 r.2.2.2.2] T)).drew := ⟨_, rfl⟩
  have hnews := news3 w r T
  rw [← hW] at hnews ⊢
  have sW : W.heap.size = w.heap.size + 1 := by rw [hW]; exact World.size_alloc w _
  have bW : Below w.heap.size w W := by rw [hW]; exact ((Below.refl _ w).alloc (Nat.le_refl _) _).drew
  have cW : ∀ k, IsC w k → IsC W k := fun k hk => hk.same (bW.block k hk.lt)
  have fin : ∀ (v' : Value) (w' : World), W.ownsRow W.heap.size 52 5 v' (rs.length + 1) (flat rs ++ flat [r]) ∨ True → True := fun _ _ _ => trivial
  have grow : ∀ (v' : Value) (w' : World), w'.ownsRow W.heap.size 52 5 v' (rs.length + 1) (flat rs ++ flat [r]) → W.grownBy w' none →
      ∃ a5 c5, v' = .slice a5 (rs.length + 1) c5 ∧ Lie w' (fun k => Y k ∨ (w.heap.size < k ∧ IsC w' k)) v' (rs ++ [r]) ∧ Kx Y w w' ∧ (∀ k, IsC w k → IsC w' k) := by
    intro v' w' ho hg
    rw [← flat_app] at ho
    have hl := lie_own ho
    obtain ⟨a5, c5, e5, h5⟩ := hl
    refine ⟨a5, c5, by simpa using e5, Lie.mono ⟨a5, c5, e5, h5⟩ (fun k hk => .inr ⟨by omega, hk.2⟩), (Kx.of_below bW).trans (Kx.grown (X := fun _ => False) hg (fun k e => by cases e)) (fun i hi => hi.elim), fun k hk => (cW k hk).same (hg.block k (cW k hk).lt (by simp))⟩
  obtain ⟨a, cap, rfl, hc, hm, h3⟩ := h
  rcases h3 with ⟨rfl, rfl⟩ | ⟨g, off, rfl, hg, hy, hr, ht⟩
  · obtain rfl : rs = [] := List.eq_nil_of_length_eq_zero (by omega)
    obtain ⟨v', w', hrun, r1, r2, r3⟩ := run_append_own (P := Try.prog) W W.heap.size 23 ty 52 i0 _ 5 40 Try.underlying23 hi0 hz0 hz1 hz2 rfl (by decide) (.slice none 0 0) 0 [] (World.ownsRow_nil _ _ _ _) ⟨w.heap.size, 0, none⟩ 1 1 (flat [r]) rfl hnews (flat_one _) (by decide) (by decide) (Nat.le_refl _)
    obtain ⟨a5, c5, rfl, h5⟩ := grow v' w' r1 r2
    exact ⟨a5, c5, w', hrun, h5⟩
  · have hrW : W.rangeAt g off (flat rs) := ra_same (bW.block g hg) hr
    have htW : W.there g off (cap * 5) := th_same (bW.block g hg) ht
    by_cases hroom : rs.length + 1 ≤ cap
    · have hrun := run_append_room_cells (P := Try.prog) W 23 ty 52 i0 Try.underlying23 hi0 g off rs.length cap ⟨w.heap.size, 0, none⟩ 1 1 (flat [r]) (by rw [hz1]; rfl) hnews (flat_one _) hroom
        (fun j hj => by rw [hz1]; have := (htW (rs.length * 5 + j) (by simp [flat_len] at hj; omega)).1; rwa [← Nat.add_assoc] at this) (fun j hj => by rw [hz1]; have := (htW (rs.length * 5 + j) (by simp [flat_len] at hj; omega)).2; rwa [← Nat.add_assoc] at this)
      rw [hz1] at hrun
      have kW : Kx Y W (W.setCells g (off + rs.length * 5) (flat [r])) := Kx.setCells W hy _ _
      refine ⟨_, cap, _, hrun, ⟨_, cap, by simp, by simpa using hroom, hm, .inr ⟨g, off, rfl, by rw [size_setCells]; omega, .inl hy, ?_, World.there_setCells htW _ _ _⟩⟩, (Kx.of_below bW).trans kW (fun i hi => .inl hi), fun k hk => cells_setCells _ _ _ (cW k hk)⟩
      rw [flat_app, ra_app]
      refine ⟨World.rangeAt_setCells_apart hrW _ _ _ (.inr (.inl (by rw [flat_len]; omega))), ?_⟩
      rw [flat_len]
      refine World.rangeAt_setCells_same W g _ _ (fun j hj => ?_)
      have := htW (rs.length * 5 + j) (by simp [flat_len] at hj; omega)
      rwa [← Nat.add_assoc] at this
    · obtain ⟨v', w', hrun, r1, r2⟩ := run_append_arg_grows (P := Try.prog) W 23 ty 52 i0 _ 5 40 Try.underlying23 hi0 hz0 hz1 hz2 rfl (by decide) ⟨g, off, none⟩ rs.length cap (flat rs) (flat_len rs) (fun j u hj => by rw [Addr.add_lit]; exact hrW j u hj) ⟨w.heap.size, 0, none⟩ 1 1 (flat [r]) rfl hnews (by omega) (by simp only [maxLen]; omega) (by omega)
      obtain ⟨a5, c5, rfl, h5⟩ := grow v' w' r1 r2
      exact ⟨a5, c5, w', hrun, h5⟩
/-- the entries behind a Put -/
def putR (rs : List Rw) (nx : Nat) (s : Fin 65536) (v : Sv) : List Rw := if (gtR rs s).isSome then rs.map (fun r => if r.2.1 = s then (r.1, r.2.1, v) else r) else rs ++ [((nx : Int), s, v)]
def nxR (rs : List Rw) (nx : Nat) (s : Fin 65536) : Nat := if (gtR rs s).isSome then nx else nx + 1
theorem ra_set {w : World} {g o : Nat} {rs : List Rw} {i : Nat} {r : Rw} {v : Sv} (h : w.rangeAt g o (flat rs)) (hr : rs[i]? = some r) : (w.setCell ⟨g, o + i * 5 + 4, none⟩ (.slice v.1 v.2.1 v.2.2)).rangeAt g o (flat (rs.set i (r.1, r.2.1, v))) := by
  have hl := (List.getElem?_eq_some_iff.1 hr).1
  have e : rs.set i (r.1, r.2.1, v) = rs.take i ++ (r.1, r.2.1, v) :: rs.drop (i + 1) := by rw [List.set_eq_take_append_cons_drop, if_pos hl]
  obtain ⟨c0, c1, c2, c3, c4⟩ := ra_cells h hr
  rw [e, flat_app, flat_cons, ra_app, ra_app]
  rw [split_at hr, flat_app, flat_cons, ra_app, ra_app] at h
  have e2 : (w.setCell ⟨g, o + i * 5 + 4, none⟩ (.slice v.1 v.2.1 v.2.2)) = w.setCells g (o + i * 5 + 4) [.slice v.1 v.2.1 v.2.2] := rfl
  have lt : (flat (rs.take i)).length = i * 5 := by rw [flat_len, List.length_take, Nat.min_eq_left (by omega)]
  refine ⟨by rw [e2]; exact World.rangeAt_setCells_apart h.1 _ _ _ (.inr (.inl (by omega))), ?_, by rw [e2]; exact World.rangeAt_setCells_apart h.2.2 _ _ _ (.inr (.inr (by rw [lt]; simp [encR])))⟩
  rw [lt]
  intro j u hu
  match j, hu with
  | 0, hu => simp [encR] at hu; subst hu; rw [World.cell?_setCell_other _ _ _ _ (by simp)]; exact c0
  | 1, hu => simp [encR] at hu; subst hu; rw [World.cell?_setCell_other _ _ _ _ (by simp)]; exact c1
  | 2, hu => simp [encR] at hu; subst hu; rw [World.cell?_setCell_other _ _ _ _ (by simp)]; exact c2
  | 3, hu => simp [encR] at hu; subst hu; rw [World.cell?_setCell_other _ _ _ _ (by simp)]; exact c3
  | 4, hu => simp [encR] at hu; subst hu; exact World.cell?_setCell_same _ _ _ c4
  | (j + 5), hu => simp [encR] at hu
theorem fits_of {D : DataW Unit} {rs qs : List Rw} (h : Fits D rs) (e : qs.map (fun r => (r.1, r.2.1)) = rs.map (fun r => (r.1, r.2.1))) : Fits D qs := by
  have key : ∀ r ∈ qs, ∃ q ∈ rs, q.1 = r.1 ∧ q.2.1 = r.2.1 := fun r hr => by
    have : (r.1, r.2.1) ∈ rs.map (fun r => (r.1, r.2.1)) := by rw [← e]; exact List.mem_map.2 ⟨r, hr, rfl⟩
    obtain ⟨q, hq, eq⟩ := List.mem_map.1 this
    exact ⟨q, hq, by simpa using congrArg (·.1) eq, by simpa using congrArg (·.2) eq⟩
  have key' : ∀ r ∈ rs, ∃ q ∈ qs, q.1 = r.1 ∧ q.2.1 = r.2.1 := fun r hr => by
    have : (r.1, r.2.1) ∈ qs.map (fun r => (r.1, r.2.1)) := by rw [e]; exact List.mem_map.2 ⟨r, hr, rfl⟩
    obtain ⟨q, hq, eq⟩ := List.mem_map.1 this
    exact ⟨q, hq, by simpa using congrArg (·.1) eq, by simpa using congrArg (·.2) eq⟩
  refine ⟨fun s => (h.has s).trans ⟨fun ⟨r, hr, er⟩ => ?_, fun ⟨r, hr, er⟩ => ?_⟩, fun r hr => ?_⟩
  · obtain ⟨q, hq, -, e2⟩ := key' r hr
    exact ⟨q, hq, e2.trans er⟩
  · obtain ⟨q, hq, -, e2⟩ := key r hr
    exact ⟨q, hq, e2.trans er⟩
  · obtain ⟨q, hq, e1, e2⟩ := key r hr
    rw [← e1, ← e2]
    exact h.at_ q hq
theorem rising_of {rs qs : List Rw} (h : Rising rs) (e : qs.map (·.1) = rs.map (·.1)) : Rising qs := by
  intro k l r r' hkl hk hl
  have f : ∀ (i : Nat) (r : Rw), qs[i]? = some r → ∃ q, rs[i]? = some q ∧ q.1 = r.1 := fun i r hi => by
    have : (rs.map (·.1))[i]? = some r.1 := by rw [← e, List.getElem?_map, hi]; rfl
    rw [List.getElem?_map] at this
    cases hq : rs[i]? with
    | none => rw [hq] at this; cases this
    | some q => rw [hq] at this; exact ⟨q, rfl, by simpa using this⟩
  obtain ⟨q, hq, eq⟩ := f k r hk
  obtain ⟨q', hq', eq'⟩ := f l r' hl
  rw [← eq, ← eq']
  exact h k l q q' hkl hq hq'
theorem set_keys {rs : List Rw} {i : Nat} {r : Rw} {v : Sv} (hr : rs[i]? = some r) : (rs.set i (r.1, r.2.1, v)).map (fun r => (r.1, r.2.1)) = rs.map (fun r => (r.1, r.2.1)) := by
  obtain ⟨hl, e⟩ := List.getElem?_eq_some_iff.1 hr
  rw [List.map_set]
  refine List.ext_getElem? fun j => ?_
  rw [List.getElem?_set]
  split
  · rename_i h
    subst h
    rw [if_pos (by simpa using hl), List.getElem?_map, hr]
    rfl
  · rfl
theorem set_sers {rs : List Rw} {i : Nat} {r : Rw} {v : Sv} (hr : rs[i]? = some r) : (rs.set i (r.1, r.2.1, v)).map (·.1) = rs.map (·.1) := by
  have := congrArg (List.map (·.1)) (set_keys (v := v) hr)
  simpa [List.map_map, Function.comp_def] using this
theorem set_map {D : DataW Unit} {rs : List Rw} (hf : Fits D rs) (hri : Rising rs) {i : Nat} {r : Rw} {v : Sv} (hr : rs[i]? = some r) : rs.set i (r.1, r.2.1, v) = rs.map (fun q => if q.2.1 = r.2.1 then (q.1, q.2.1, v) else q) := by
  refine List.ext_getElem? fun j => ?_
  rw [List.getElem?_set, List.getElem?_map]
  split
  · rename_i h
    subst h
    rw [if_pos (List.getElem?_eq_some_iff.1 hr).1, hr]
    simp
  · rename_i h
    cases hq : rs[j]? with
    | none => rfl
    | some q =>
      simp only [Option.map_some]
      rw [if_neg (fun e => h (keys_apart hf hri hr hq e.symm))]
theorem fits_put {D : DataW Unit} {rs : List Rw} {s : Fin 65536} {x : Int} {v : Sv} (hf : Fits D rs) (hD : Maps.IsMap D) (hno : ∀ r ∈ rs, r.2.1 ≠ s) : Fits (D.put (kl s) (.lit (.int .i64 x))) (rs ++ [(x, s, v)]) := by
  have klk : ∀ s : Fin 65536, WideAt.IsKeyLit (kl s) := fun s => trivial
  have ne : ∀ s' : Fin 65536, s' ≠ s → kl s' ≠ kl s := fun s' h e => h (kl_inj e)
  refine ⟨fun s' => ?_, fun r hr => ?_⟩
  · by_cases h : s' = s
    · subst h
      rw [Maps.has_put_same hD (klk _)]
      exact ⟨fun _ => ⟨(x, s', v), by simp, rfl⟩, fun _ => rfl⟩
    · rw [Maps.has_put_other (ne s' h), hf.has]
      constructor
      · rintro ⟨r, hr, e⟩
        exact ⟨r, by simp [hr], e⟩
      · rintro ⟨r, hr, e⟩
        rcases List.mem_append.1 hr with h1 | h1
        · exact ⟨r, h1, e⟩
        · simp at h1
          subst h1
          exact absurd e.symm h
  · rcases List.mem_append.1 hr with h1 | h1
    · rw [Maps.atKey_put_other (ne _ (hno r h1))]
      exact hf.at_ r h1
    · simp at h1
      subst h1
      exact Maps.atKey_put_same hD (klk _) _ _
theorem rising_snoc {rs : List Rw} {x : Int} {s : Fin 65536} {v : Sv} (h : Rising rs) (hl : ∀ r ∈ rs, r.1 < x) : Rising (rs ++ [(x, s, v)]) := by
  intro k l r r' hkl hk hl'
  by_cases h1 : l < rs.length
  · rw [List.getElem?_append_left (by omega)] at hk
    rw [List.getElem?_append_left h1] at hl'
    exact h k l r r' hkl hk hl'
  · rw [List.getElem?_append_right (by omega)] at hl'
    have h2 : l - rs.length = 0 := by have := (List.getElem?_eq_some_iff.1 hl').1; simp at this; omega
    rw [h2] at hl'
    simp at hl'
    subst hl'
    rw [List.getElem?_append_left (by omega)] at hk
    exact hl r (List.mem_of_getElem? hk)
end Go.Proofs.Ytlgmonphhimbdaa.knd
