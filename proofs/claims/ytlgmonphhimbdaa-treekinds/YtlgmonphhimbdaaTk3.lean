import Derived.Test.YtlgmonphhimbdaaTk2
namespace Go.Proofs.Ytlgmonphhimbdaa.knd
open Go.ChangeShapes Go.WideShapes Go.ChangeAt Go.RowKit Go.Maps
set_option linter.unusedVariables false
/-- what find answers -/
def FdPost (rs : List Rw) (s : Fin 65536) (w : World) (e : Ending) (w' : World) : Prop :=
  Below w.heap.size w w' ∧ ((∃ i r, rs[i]? = some r ∧ r.2.1 = s ∧ e = .returned (.tuple #[.int .i64 (i : Nat), .bool true])) ∨ ((∀ r ∈ rs, r.2.1 ≠ s) ∧ ∃ j : Int, e = .returned (.tuple #[.int .i64 j, .bool false])))
theorem find_tb {w : World} {B : Nat} {X : Nat → Prop} {b : Nat} {M : Option Nat} {rs : List Rw} {nx : Nat} (h : Tb w B X b M rs nx) (s : Fin 65536) (hs : True) (hn : rs.length ≤ 1099511627776) :
    Calls Try.prog 12 #[.pointer (some ⟨b, 0, none⟩), .agg #[.int .i8 (p0 s), .int .i8 (p1 s), .bool (p2 s)]] w (FdPost rs s w) := by
  have hb := (h.lo b h.xb).2
  obtain ⟨a, cap, c0, hR⟩ := h.rws
  rcases h.map with ⟨h1, h2, h3, h4, h5⟩ | ⟨m, k, D, h1, h2, h3, h4, h5, h6⟩
  · refine (find_none s b w hs hb h5).mono ?_
    rintro e w' ⟨rfl, hb'⟩
    refine ⟨hb', .inr ⟨fun r hr => ?_, 0, rfl⟩⟩
    rw [h2] at hr
    cases hr
  · refine (find_one s b m a rs.length cap k rs D w hs hb c0 h2 (h.lo m h3).2 h5 hR (by omega) h.ris).mono ?_
    rintro e w' (⟨hh, rfl, hb'⟩ | ⟨c, hh, hat, i, f, q1, q2, q3, q4, rfl, hb'⟩)
    · refine ⟨hb', .inr ⟨fun r hr e => ?_, 0, rfl⟩⟩
      have := (h6.has s).2 ⟨r, hr, e⟩
      rw [hh] at this
      cases this
    · obtain ⟨r, hr, er⟩ := (h6.has s).1 hh
      have e1 := h6.at_ r hr
      rw [er, hat] at e1
      have ec : c = r.1 := by simpa using e1
      obtain ⟨j, hj⟩ := List.mem_iff_getElem?.1 hr
      have hij : i = j := by
        rcases Nat.lt_trichotomy i j with hl | hl | hl
        · obtain ⟨q, hq⟩ : ∃ q, rs[i]? = some q := ⟨_, List.getElem?_eq_getElem (by have := (List.getElem?_eq_some_iff.1 hj).1; omega)⟩
          have := q3 i q (Nat.le_refl _) hq
          have := h.ris i j q r hl hq hj
          omega
        · exact hl
        · have := q2 j r hl hj
          omega
      subst hij
      obtain rfl : f = true := q4.2 ⟨r, hj, ec.symm⟩
      exact ⟨hb', .inl ⟨i, r, hj, er, rfl⟩⟩
theorem len_tb {w : World} {B : Nat} {X : Nat → Prop} {b : Nat} {M : Option Nat} {rs : List Rw} {nx : Nat} (h : Tb w B X b M rs nx) :
    Calls Try.prog 10 #[.pointer (some ⟨b, 0, none⟩)] w fun e w' => e = .returned (.int .i64 (rs.length : Nat)) ∧ w' = w := by
  obtain ⟨a, cap, c0, hR⟩ := h.rws
  obtain ⟨n, hn⟩ : ∃ n, n = rs.length := ⟨_, rfl⟩
  rw [← hn] at c0 ⊢
  clear hn hR
  go_enter Try.func10, Try.ntmps10
  go_wp2
  go_ret
  exact ⟨rfl, rfl⟩
/-- what Get answers -/
def gtR (rs : List Rw) (s : Fin 65536) : Option Sv := (rs.find? (fun r => decide (r.2.1 = s))).map (·.2.2)
theorem gtR_some {D : DataW Unit} {rs : List Rw} (hf : Fits D rs) (hr : Rising rs) {i : Nat} {r : Rw} (hi : rs[i]? = some r) : gtR rs r.2.1 = some r.2.2 := by
  unfold gtR
  cases h : rs.find? (fun q => decide (q.2.1 = r.2.1)) with
  | none => rw [List.find?_eq_none] at h; exact absurd (h r (List.mem_of_getElem? hi)) (by simp)
  | some q =>
    have h1 := List.find?_some h
    obtain ⟨j, hj⟩ := List.mem_iff_getElem?.1 (List.mem_of_find?_eq_some h)
    have := keys_apart hf hr hj hi (by simpa using h1)
    subst this
    rw [hi] at hj
    cases hj
    rfl
theorem gtR_none {rs : List Rw} {s : Fin 65536} (h : ∀ r ∈ rs, r.2.1 ≠ s) : gtR rs s = none := by
  unfold gtR
  rw [List.find?_eq_none.2 (fun r hr => by simpa using h r hr)]
  rfl
theorem get_tb {w : World} {B : Nat} {X : Nat → Prop} {b : Nat} {M : Option Nat} {rs : List Rw} {nx : Nat} (h : Tb w B X b M rs nx) (s : Fin 65536) (hs : True) (hn : rs.length ≤ 1099511627776) :
    Calls Try.prog 8 #[.pointer (some ⟨b, 0, none⟩), .agg #[.int .i8 (p0 s), .int .i8 (p1 s), .bool (p2 s)]] w fun e w' => ((∃ u, gtR rs s = some u ∧ e = .returned (.tuple #[.slice u.1 u.2.1 u.2.2, .bool true])) ∨ (gtR rs s = none ∧ e = .returned (.tuple #[.slice none 0 0, .bool false]))) ∧ Below w.heap.size w w' := by
  have FD := hide (fun W (hW : Below w.heap.size w W) => find_tb (h.below hW) s hs hn)
  have GS := hide (fun (i : Nat) (r : Rw) (hi : rs[i]? = some r) => show gtR rs r.2.1 = some r.2.2 from by
    rcases h.map with ⟨h1, h2, h3, h4, h5⟩ | ⟨m, k, D, h1, h2, h3, h4, h5, h6⟩
    · rw [h2] at hi; cases hi
    · exact gtR_some h6 h.ris hi)
  obtain ⟨a, cap, c0, hR⟩ := h.rws
  have hb := (h.lo b h.xb).2
  clear h
  obtain ⟨n, hn'⟩ : ∃ n, n = rs.length := ⟨_, rfl⟩
  rw [← hn'] at c0 hR
  have hn'' : n ≤ 1099511627776 := by omega
  have HL := hide hn'.symm
  clear hn' hn
  go_enter Try.func8, Try.ntmps8
  go_wp2_with fail
  refine (unhide FD _ ((Below.refl _ _).alloc (Nat.le_refl _) _)).mono ?_
  rintro e w1 ⟨hb1, (⟨i, r, hi, er, rfl⟩ | ⟨hno, j, rfl⟩)⟩ <;> replace hb1 := (ent hb1).1
  · have hin : i < n := by have := (List.getElem?_eq_some_iff.1 hi).1; have := unhide HL; omega
    have hii : (i : Int) < (n : Int) := by omega
    rcases (hR.below hb1).at_ with h0 | ⟨g, off, rfl, hg, hcell⟩
    · omega
    obtain ⟨r', hr', k0, k1, k2, k3, k4⟩ := hcell i hin
    obtain rfl : r = r' := Option.some.inj (hi.symm.trans hr')
    have c0' := (hb1.cell (p := ⟨b, 0, none⟩) hb).trans c0
    have ev := hide ((unhide GS) i r hi)
    rw [er] at ev
    obtain ⟨x, kk, v⟩ := r
    clear hcell hr' hR FD
    simp only at k0 k1 k2 k3 k4
    have HI := hide hi
    clear hi
    go_wp2
    go_ret2
    exact ⟨.inl ⟨v, unhide ev, rfl⟩, hb1⟩
  · have e0 := hide (gtR_none hno)
    clear hno
    go_wp2
    go_ret2
    exact ⟨.inr ⟨unhide e0, rfl⟩, hb1⟩
end Go.Proofs.Ytlgmonphhimbdaa.knd
