import Derived.Test.YtlgmonphhimbdaaDoorTb6
namespace Go.Proofs.YtlgmonphhimbdaaDoor.tab
open Go.ChangeShapes Go.WideShapes Go.ChangeAt Go.RowKit Go.Maps
set_option linter.unusedVariables false
/-- the entries behind a Drop -/
def drpR (rs : List Rw) (s : ByteArray) : List Rw := rs.filter (fun r => decide (r.2.1 ≠ s))
def DpPost (B : Nat) (X : Nat → Prop) (b : Nat) (M : Option Nat) (rs : List Rw) (nx : Nat) (s : ByteArray) (w : World) (e : Ending) (w' : World) : Prop :=
  e = .returned (.bool (gtR rs s).isSome) ∧ Tb w' B X b M (drpR rs s) nx ∧ Kx X w w'
theorem drp_none {rs : List Rw} {s : ByteArray} (h : ∀ r ∈ rs, r.2.1 ≠ s) : drpR rs s = rs := List.filter_eq_self.2 (fun r hr => by simpa using h r hr)
theorem drp_hit {D : DataW Unit} {rs : List Rw} (hf : Fits D rs) (hri : Rising rs) {i : Nat} {r : Rw} (hr : rs[i]? = some r) : drpR rs r.2.1 = rs.eraseIdx i := by
  rw [erase_eq]
  conv => lhs; rw [split_at hr]
  unfold drpR
  rw [List.filter_append, List.filter_cons]
  simp only [ne_eq, not_true_eq_false, decide_false, Bool.false_eq_true, if_false]
  congr 1
  · refine List.filter_eq_self.2 (fun q hq => ?_)
    obtain ⟨j, hj⟩ := List.mem_iff_getElem?.1 hq
    have hjl := (List.getElem?_eq_some_iff.1 hj).1
    rw [List.length_take] at hjl
    rw [List.getElem?_take_of_lt (by omega)] at hj
    have : q.2.1 ≠ r.2.1 := fun e => by have := keys_apart hf hri hj hr e; omega
    simpa using this
  · refine List.filter_eq_self.2 (fun q hq => ?_)
    obtain ⟨j, hj⟩ := List.mem_iff_getElem?.1 hq
    rw [List.getElem?_drop] at hj
    have : q.2.1 ≠ r.2.1 := fun e => by have := keys_apart hf hri hj hr e; omega
    simpa using this
theorem rising_sub {rs qs : List Rw} (h : Rising rs) (hs : List.Sublist qs rs) : Rising qs := by
  have hp : rs.Pairwise (fun a b => a.1 < b.1) := by
    rw [List.pairwise_iff_getElem]
    intro i j hi hj hij
    exact h i j _ _ hij (List.getElem?_eq_getElem hi) (List.getElem?_eq_getElem hj)
  have hq := hp.sublist hs
  rw [List.pairwise_iff_getElem] at hq
  intro k l r r' hkl hk hl
  obtain ⟨h1, e1⟩ := List.getElem?_eq_some_iff.1 hk
  obtain ⟨h2, e2⟩ := List.getElem?_eq_some_iff.1 hl
  have := hq k l h1 h2 hkl
  rwa [e1, e2] at this
theorem fits_del {D : DataW Unit} {rs : List Rw} {s : ByteArray} (hf : Fits D rs) : Fits (D.del (.string s.data.toList)) (drpR rs s) := by
  have ne : ∀ s' : ByteArray, s' ≠ s → (Lit.string s'.data.toList : Lit) ≠ .string s.data.toList := fun s' h e => h (by
    have : s'.data.toList = s.data.toList := by simpa using e
    rcases s' with ⟨⟨a⟩⟩; rcases s with ⟨⟨b⟩⟩
    simpa using this)
  have mem : ∀ r, r ∈ drpR rs s ↔ r ∈ rs ∧ r.2.1 ≠ s := fun r => by simp [drpR, List.mem_filter]
  refine ⟨fun s' => ?_, fun r hr => ?_⟩
  · by_cases h : s' = s
    · subst h
      rw [Maps.has_del_same]
      exact ⟨fun h => (by cases h), fun ⟨r, hr, e⟩ => absurd e ((mem r).1 hr).2⟩
    · rw [Maps.has_del_other (ne s' h), hf.has]
      exact ⟨fun ⟨r, hr, e⟩ => ⟨r, (mem r).2 ⟨hr, e ▸ h⟩, e⟩, fun ⟨r, hr, e⟩ => ⟨r, ((mem r).1 hr).1, e⟩⟩
  · obtain ⟨h1, h2⟩ := (mem r).1 hr
    rw [Maps.atKey_del_other (ne _ h2)]
    exact hf.at_ r h1
theorem drop_end {w w1 w2 w3 : World} {B : Nat} {X : Nat → Prop} {b g m k p i off' cap' : Nat} {M : Option Nat} {rs : List Rw} {nx : Nat} {s : ByteArray} {r : Rw} {D : DataW Unit}
    (h : Tb w B X b M rs nx) (b1 : Below w.heap.size w w1) (hg2 : w1.grownBy w2 (some m)) (hM : M = some m) (xm : X m) (hk : k ≤ nx) (hown : w2.ownsMap Tryd.prog 9 (plainElem (H := Unit) Tryd.prog 3) m k (D.del (.string s.data.toList))) (hf : Fits D rs) (hr : rs[i]? = some r) (er : r.2.1 = s) (hl : rs.length = p + 1)
    (hg : g < w.heap.size) (hy : X g ∧ g ≠ b ∧ M ≠ some g) (hpc : p ≤ cap') (hcm : cap' ≤ maxLen) (r3 : w3.rangeAt g off' (flat (rs.eraseIdx i))) (t3 : w3.there g off' (cap' * 3)) (k3 : Kx (· = g) w2 w3) (c3 : ∀ j, IsC w2 j → IsC w3 j)
    (p0 : (w3.setCell ⟨b, 0, none⟩ (.slice (some ⟨g, off', none⟩) p cap')).cell? ⟨b, 0, none⟩ = some (.slice (some ⟨g, off', none⟩) p cap')) :
    DpPost B X b M rs nx s w (.returned (.bool true)) (w3.setCell ⟨b, 0, none⟩ (.slice (some ⟨g, off', none⟩) p cap')) := by
  have hil := (List.getElem?_eq_some_iff.1 hr).1
  have hget : (gtR rs s).isSome = true := by rw [← er, gtR_some hf h.ris hr]; rfl
  have eE : drpR rs s = rs.eraseIdx i := by rw [← er, drp_hit hf h.ris hr]
  have s1 := b1.size
  have s2 := hg2.size
  have s3 := k3.size
  have hb := (h.lo b h.xb)
  have h1 := h.below b1
  have hbm : b ≠ m := fun e => h.nb (by rw [hM, e])
  obtain ⟨W, hW⟩ : ∃ W, W = w3.setCell ⟨b, 0, none⟩ (.slice (some ⟨g, off', none⟩) p cap') := ⟨_, rfl⟩
  rw [← hW] at p0 ⊢
  have sW : W.heap.size = w3.heap.size := by rw [hW]; simp
  have bW : ∀ j, j ≠ b → W.heap[j]? = w3.heap[j]? := fun j hj => by rw [hW]; exact Below.heap_setCell _ ⟨b, 0, none⟩ _ _ hj
  have b3 : w3.heap[b]? = w1.heap[b]? := (k3.block b (by omega) (fun e => hy.2.1 e.symm)).trans (hg2.block b (by omega) (fun e => hbm (by cases e; rfl)))
  have cb : ∀ j, j ≠ 0 → W.cell? ⟨b, j, none⟩ = w1.cell? ⟨b, j, none⟩ := fun j hj => by
    rw [hW]
    exact (World.cell?_setCell_other _ _ _ _ (by simp <;> omega)).trans (World.cell?_of_block (a := ⟨b, j, none⟩) b3)
  have kk : Kx X w W := by
    have a1 : Kx X w w1 := Kx.of_below b1
    have a2 : Kx X w1 w2 := Kx.grown hg2 (fun j e => by cases e; exact xm)
    have a3 : Kx X w w2 := a1.trans a2 (fun j hj => .inl hj)
    have a4 : Kx X w w3 := a3.trans k3 (fun j hj => .inl (by rw [hj]; exact hy.1))
    have a5 : Kx X w3 W := ⟨by rw [hW]; rfl, by rw [hW]; rfl, by rw [hW]; rfl, by omega, fun j hj hx => bW j (fun e => hx (e ▸ h.xb))⟩
    exact a4.trans a5 (fun j hj => .inl hj)
  refine ⟨by rw [hget], ?_, kk⟩
  refine ⟨fun j hj => ⟨(h.lo j hj).1, by have := (h.lo j hj).2; omega⟩, fun j hj => ?_, h.xb, h.nb, fun j => ?_, ⟨_, p0, ?_⟩, .inr ⟨m, k, _, hM, ?_, xm, hk, own_same ?_ hown, fits_del hf⟩, ?_, rising_sub h.ris List.filter_sublist, fun q hq => h.lt q (List.mem_filter.1 hq).1⟩
  · by_cases hjm : j = m
    · exact .inl (by rw [hjm, hM])
    · rcases h1.dat j hj with e | hc
      · exact .inl e
      · refine .inr ?_
        rw [hW]
        exact cells_setCell (c3 j (IsC.same hc (hg2.block j (IsC.lt hc) (fun e => hjm (by cases e; rfl))))) _ _
  · rw [hW, World.frozen?_setCell, World.frozen?_of_block (a := ⟨b, j, none⟩) b3]
    exact h1.fr j
  · refine ⟨_, cap', by rw [eE, List.length_eraseIdx, if_pos hil, hl]; rfl, by rw [eE, List.length_eraseIdx, if_pos hil, hl]; exact hpc, hcm, .inr ⟨g, off', rfl, by omega, hy, ?_, ?_⟩⟩
    · rw [eE]
      exact ra_same (bW g hy.2.1) r3
    · exact th_same (bW g hy.2.1) t3
  · rw [cb 1 (by decide)]
    rcases h1.map with ⟨e, -⟩ | ⟨m', k', D', e, e1, -⟩
    · rw [hM] at e; cases e
    · rw [hM] at e; cases e; exact e1
  · exact (bW m (fun e => hbm e.symm)).trans (k3.block m (by have := h.lo m xm; omega) (fun e => hy.2.2 (by rw [hM, e])))
  · rw [cb 2 (by decide)]
    exact h1.next
set_option maxRecDepth 6000 in
theorem drop_tb {w : World} {B : Nat} {X : Nat → Prop} {b : Nat} {M : Option Nat} {rs : List Rw} {nx : Nat} (h : Tb w B X b M rs nx) (s : ByteArray) (hs : s.size ≤ maxLen) (hn : rs.length ≤ 1099511627776) :
    Calls Tryd.prog 16 #[.pointer (some ⟨b, 0, none⟩), .string s] w (DpPost B X b M rs nx s w) := by
  have FD := hide (find_tb h s hs hn)
  have hb := (h.lo b h.xb).2
  have HH := hide h
  have fr := hide h.fr
  obtain ⟨v0, c0, hlie⟩ := h.rows
  have HL := hide hlie
  have hmap := hide h.map
  clear h hlie
  go_enter Tryd.func16, Tryd.ntmps16
  go_wp2_with fail
  refine (unhide FD).mono ?_
  rintro e w1 ⟨hb1, (⟨i, r, hi, er, rfl⟩ | ⟨hno, j, rfl⟩)⟩
  · obtain ⟨m, k, D, hM, c1, xm, hk, hown, hfit⟩ : ∃ m k D, M = some m ∧ w.cell? ⟨b, 1, none⟩ = some (.map (some m)) ∧ X m ∧ k ≤ nx ∧ w.ownsMap Tryd.prog 9 (plainElem (H := Unit) Tryd.prog 3) m k D ∧ Fits D rs := by
      rcases unhide hmap with ⟨_, e0, _⟩ | ⟨m, k, D, h1, h2, h3, h4, h5, h6⟩
      · rw [e0] at hi; cases hi
      · exact ⟨m, k, D, h1, h2, h3, h4, h5, h6⟩
    obtain ⟨a, cap, rfl, hc, hcm, h4⟩ := unhide HL
    have hil := (List.getElem?_eq_some_iff.1 hi).1
    obtain ⟨p, hp⟩ : ∃ p, rs.length = p + 1 := ⟨rs.length - 1, by omega⟩
    rcases h4 with ⟨rfl, rfl⟩ | ⟨g, off, rfl, hg, hy, hr, ht⟩
    · omega
    rw [hp] at c0
    have hmg : m < w1.heap.size := Nat.lt_of_lt_of_le ((unhide HH).lo m xm).2 hb1.size
    have hown1 := own_same (hb1.block m ((unhide HH).lo m xm).2) hown
    have c0' := (hb1.cell (p := ⟨b, 0, none⟩) hb).trans c0
    have c1' := (hb1.cell (p := ⟨b, 1, none⟩) hb).trans c1
    have f0' := (hb1.frozen (p := ⟨b, 0, none⟩) hb).trans (unhide fr 0)
    have hbw1 : b < w1.heap.size := Nat.lt_of_lt_of_le hb hb1.size
    have hgw1 : g < w1.heap.size := Nat.lt_of_lt_of_le hg hb1.size
    have nb : (some b : Option Nat) ≠ some m := fun e => (unhide HH).nb (by rw [hM, e])
    have ng : (some g : Option Nat) ≠ some m := fun e => hy.2.2 (by rw [hM, e])
    have ip : i < p + 1 := by omega
    have pb : p ≤ 1099511627776 := by omega
    have pc : p + 1 ≤ cap := by omega
    have HR := hide (ra_same (hb1.block g hg) hr)
    have HT := hide (th_same (hb1.block g hg) ht)
    have HP := hide hp
    have HI := hide hi
    have ER := hide er
    have HM := hide hM
    have HF := hide hfit
    have HY := hide hy
    clear hp hi er hM hfit hy hr ht hown c0 c1 hil HL hmap FD hn hc
    go_wp2_with (at_delete; refine wpList_delete_own _ rfl _ _ 38 9 rfl 3 law Tryd.underlying38 _ m k D rfl hown1 _ _ rfl (Go.WideMaps.keyOf_string_mk Tryd.underlying9 hs) ?_; intro w2 hown2 ht2; have hg2 := ht2.grown; have c0'' := (hg2.cell_far ⟨b, 0, none⟩ hbw1 nb).trans c0'; have f0'' := (hg2.frozen_far ⟨b, 0, none⟩ hbw1 nb).trans f0'; clear ht2)
    refine (cut_ok g off p cap i rs w2 HP ip pc pb hcm (hide (ra_same (hg2.block g hgw1 ng) (unhide HR))) (hide (th_same (hg2.block g hgw1 ng) (unhide HT)))).mono ?_
    rintro e w3 ⟨off', cap', rfl, R⟩
    have K3 := R.2.2.2.2.1
    have hbg : ¬ b = g := fun e => (unhide HY).2.1 e.symm
    have c3 := (K3.cell (p := ⟨b, 0, none⟩) (Nat.lt_of_lt_of_le hbw1 hg2.size) hbg).trans c0''
    have f3 := (K3.frozen (p := ⟨b, 0, none⟩) (Nat.lt_of_lt_of_le hbw1 hg2.size) hbg).trans f0''
    have R := hide R
    have G2 := hide hg2
    clear hg2 K3 hbg
    go_wp2
    go_ret
    obtain ⟨q1, q2, q3, q4, q5, q6⟩ := unhide R
    exact drop_end (unhide HH) hb1 (unhide G2) (unhide HM) xm hk hown2 (unhide HF) (unhide HI) (unhide ER) (unhide HP) hg (unhide HY) q1 q2 q3 q4 q5 q6 (World.cell?_setCell_same _ _ _ c3)
  · have e0 := hide (gtR_none hno)
    have e1 := hide (drp_none hno)
    clear hno
    go_wp2
    go_ret
    refine ⟨by rw [unhide e0]; rfl, ?_, Kx.of_below hb1⟩
    rw [unhide e1]
    exact (unhide HH).below hb1
end Go.Proofs.YtlgmonphhimbdaaDoor.tab
