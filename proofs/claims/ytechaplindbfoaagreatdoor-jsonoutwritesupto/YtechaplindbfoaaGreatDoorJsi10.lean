import Derived.Test.YtechaplindbfoaaGreatDoorJsi9
namespace Go.Proofs.YtechaplindbfoaaGreatDoor.og
open Go.ChangeShapes Go.WideShapes Go.ChangeAt Go.RowKit
open vl hiding cB cFl cS cF cI cK cIt
open stp (St Pth St3)
set_option linter.unusedVariables false
set_option linter.unusedSimpArgs false
theorem OwL.get {E : Type} {Ow : World → E → List Value → List Nat → Prop} {w : World} {size : Nat} (hz : ∀ e cs F, Ow w e cs F → cs.length = size) : ∀ {l : List E} {xss : List (List Value)} {G : List Nat} {k : Nat} {e : E}, OwL Ow w l xss G → l[k]? = some e → ∃ cs F, Ow w e cs F ∧ ∀ j u, cs[j]? = some u → xss.flatten[k * size + j]? = some u
  | [], xss, G, k, e, h, hk => by simp at hk
  | v :: r, xss, G, k, e, h, hk => by
    obtain ⟨cs, l, G1, G2, rfl, h1, h2, rfl⟩ := h
    cases k with
    | zero =>
      obtain rfl : v = e := by simpa using hk
      refine ⟨cs, G1, h1, fun j u hu => ?_⟩
      rw [List.flatten_cons, Nat.zero_mul, Nat.zero_add, List.getElem?_append_left (List.getElem?_eq_some_iff.1 hu).1]
      exact hu
    | succ k =>
      obtain ⟨ds, F, c1, c2⟩ := OwL.get hz h2 (by simpa using hk)
      refine ⟨ds, F, c1, fun j u hu => ?_⟩
      rw [List.flatten_cons, List.getElem?_append_right (by rw [hz _ _ _ h1, Nat.succ_mul]; omega), hz _ _ _ h1, show (k + 1) * size + j - size = k * size + j by rw [Nat.succ_mul]; omega]
      exact c2 j u hu
theorem OwP.nine {V w : World} {q : List St × Vl} {cs : List Value} {F : List Nat} (h : OwP V w q cs F) : cs.length = 9 := by
  obtain ⟨ap, n, c, us, rfl, hv, -⟩ := h
  simp [hv.cells]
/-- a part of the list of parts -/
theorem part_get {V w : World} {B : Nat} {l : List (List St × Vl)} {a : Option Addr} {n c : Nat} {G : List Nat} (h : Grow (OwP V) 101 9 w B l (.slice a n c) G) {k : Nat} {q : List St × Vl} (hk : l[k]? = some q) :
    ∃ g ap m cp us, a = some ⟨g, 0, none⟩ ∧ n = l.length ∧ g < w.heap.size ∧ VlC V q.2 us ∧ Pth w ap m q.1 ∧ w.cell? ⟨g, k * 9, none⟩ = some (.slice ap m cp) ∧ w.rangeAt g (k * 9 + 1) us := by
  obtain ⟨xss, hr, hl⟩ := h.row
  obtain ⟨cs, F, h1, h2⟩ := OwL.get (fun e cs F h => OwP.nine h) hl hk
  have hlt := (List.getElem?_eq_some_iff.1 hk).1
  obtain ⟨g, cap, e, -, hg⟩ := hr.form (by omega)
  simp only [Value.slice.injEq] at e
  obtain ⟨rfl, rfl, rfl⟩ := e
  have hc := hr.cells (v := .slice (some ⟨g, 0, none⟩) l.length c) rfl
  obtain ⟨ap, m, cp, us, rfl, hv, hm, hp⟩ := h1
  have cell : ∀ j u, (Value.slice ap m cp :: us)[j]? = some u → w.cell? ⟨g, k * 9 + j, none⟩ = some u := fun j u hu => by
    have := hc _ u (h2 j u hu)
    rw [Addr.add_mid, Nat.zero_add] at this
    exact this
  refine ⟨g, ap, m, cp, us, rfl, rfl, hg, hv, PO.pth ⟨hm, hp⟩, by simpa using cell 0 _ rfl, fun j u hu => ?_⟩
  rw [show k * 9 + 1 + j = k * 9 + (j + 1) by omega]
  exact cell (j + 1) u (by simpa using hu)
set_option maxHeartbeats 4000000 in
set_option maxRecDepth 100000 in
theorem rparts_ok (v : Vl) (cs : List Value) (w : World) (hv : VlC w v cs) (hsm : Small v) (hc : cnt v ≤ 1048576) : Calls Tryz.prog 62 #[.agg cs.toArray] w fun e w' => ∃ a n c G, e = .returned (.slice a n c) ∧ Grow (OwP w) 101 9 w' w.heap.size (pts v []) (.slice a n c) G ∧ Below w.heap.size w w' := by
  have P := hide (fun W (hb : Below w.heap.size w W) => parts_ok v hsm w cs W [] none 0 0 [] [] (.slice none 0 0) [] hv hb Grow.nil ⟨rfl, .inl ⟨rfl, rfl⟩⟩ ⟨List.nodup_nil, by simp, fun b hb => by simp at hb⟩ (by simpa using hc) (by simpa using hc))
  simp only [List.nil_append] at P
  generalize pts v [] = L at *
  obtain ⟨kd, b, m, f, tx, ty, its, fls⟩ := v
  unfold VlC at hv
  obtain ⟨ai, ni, ci, af, nf, cf, rfl, -⟩ := hv
  have hsf := storeF
  clear hsm hc
  go_enter Tryz.func62, Tryz.ntmps62
  go_wp2_with fail
  refine (unhide P _ ((Below.refl _ _).alloc (Nat.le_refl _) _)).mono ?_
  rintro e w1 ⟨sl, G, rfl, hG, b1, -, -⟩
  obtain ⟨a, n, c, rfl⟩ := hG.form
  clear P
  go_wp2
  go_ret
  exact ⟨a, n, c, G, rfl, hG, ((Below.refl _ _).alloc (Nat.le_refl _) _).trans b1⟩
theorem pts_small : ∀ (v : Vl), Small v → wtV v ≤ 1048576 → ∀ q ∈ pts v [], Small q.2 ∧ wtV q.2 ≤ 1048576 := by
  refine Vl.all ?_
  intro kd b n f tx ty its fls hI hF hsm hwt q hq
  have hs := hsm
  unfold Small at hs
  obtain ⟨-, -, -, hsI, hsF⟩ := hs
  have hk := mem_kids (P := fun v => wtV v ≤ 1048576 → ∀ q ∈ pts v [], Small q.2 ∧ wtV q.2 ≤ 1048576) (kd := kd) (b := b) (n := n) (f := f) (tx := tx) (ty := ty) (its := its) (fls := fls) (fun v hv => hI v hv (hsI.all v hv)) (fun q hq => hF q hq (hsF.all q hq))
  have hw := kid_wt (v := .mk kd b n f tx ty its fls)
  generalize Vl.mk kd b n f tx ty its fls = v at *
  rw [pts_kids v []] at hq
  rcases List.mem_cons.1 hq with rfl | hq
  · exact ⟨hsm, hwt⟩
  · rw [List.mem_flatMap] at hq
    obtain ⟨x, hx, hq⟩ := hq
    rw [pts_shift, List.mem_map] at hq
    obtain ⟨r, hr, rfl⟩ := hq
    exact hk x hx (Nat.le_trans (hw x hx) hwt) r hr
/-- what Sound answers: a path and a fault's number -/
def SnP (w : World) (E : Int) (PP : List St) (e : Ending) (w' : World) : Prop := ∃ aj nj cj, e = .returned (.tuple #[.slice aj nj cj, .int .i64 E]) ∧ Pth w' aj nj PP ∧ Below w.heap.size w w'
set_option maxHeartbeats 8000000 in
set_option maxRecDepth 100000 in
theorem rsound_ok (v : Vl) (cs : List Value) (w : World) (hv : VlC w v cs) (hsm : Small v) (hwt : wtV v ≤ 1048576) : Calls Tryz.prog 36 #[.agg cs.toArray] w (SnP w (ffE v) (ffP v)) := by
  have P := hide (fun W (hb : Below w.heap.size w W) => rparts_ok v cs W (VlC.below hb _ _ hv) hsm (Nat.le_trans (cnt_wt v) hwt))
  have HS := hide (pts_small v hsm hwt)
  have HLn := hide (show (pts v []).length ≤ 1048576 by rw [pts_len]; exact Nat.le_trans (cnt_wt v) hwt)
  have F1 := hide (fun (k : Nat) (q : List St × Vl) => ff_find (v := v) (k := k) (q := q))
  have F2 := hide (ff_none (v := v))
  generalize ffE v = E at *
  generalize ffP v = PP at *
  generalize pts v [] = L at *
  obtain ⟨kd, b, m, f, tx, ty, its, fls⟩ := v
  unfold VlC at hv
  obtain ⟨ai, ni, ci, af, nf, cf, rfl, -⟩ := hv
  have hsf := storeF
  clear hsm hwt
  go_enter Tryz.func36, Tryz.ntmps36
  go_wp2_with fail
  refine (unhide P _ ((Below.refl _ _).alloc (Nat.le_refl _) _)).mono ?_
  obtain ⟨W0, hW0⟩ : ∃ W0, W0 = w.alloc (.cells #[Value.int IntKind.i64 kd, Value.bool b, Value.int IntKind.i64 m, Value.float FloatKind.f64 f, Value.string tx, Value.string ty, Value.slice ai ni ci, Value.slice af nf cf] 29) := ⟨_, rfl⟩
  have hB0 : Below w.heap.size w W0 := by rw [hW0]; exact (Below.refl _ _).alloc (Nat.le_refl _) _
  rw [← hW0]
  clear hW0
  rintro e w1 ⟨a, n, c, G, rfl, hG, b1⟩
  have HG := hide hG
  have hn : n = L.length := by
    obtain ⟨xss, hr, -⟩ := hG.row
    rcases hr.2 with ⟨e, h0⟩ | ⟨g, cap, cur, e, -⟩
    · cases e; exact h0.symm
    · cases e; rfl
  have HN := hide hn
  have hnb : n ≤ 1048576 := by rw [hn]; exact unhide HLn
  clear P hG hn
  go_wp2_with fail
  go_loopw [5] (fun vi wr => ∃ k : Nat, k ≤ n ∧ vi = .int .i64 k ∧ vl.Hid (∀ j x, j < k → L[j]? = some x → flw x.2 = 0) ∧ Below w1.heap.size w1 wr) (fun vi _ => n - (intOf vi).toNat)
  case atStart => exact ⟨0, Nat.zero_le _, rfl, hide (fun j x hj => absurd hj (Nat.not_lt_zero _)), Below.refl _ _⟩
  case round =>
    obtain ⟨k, hk, rfl, hz, hb⟩ := hrel
    have hBw : Below w.heap.size w wr := (hB0.trans (b1.mono hB0.size)).trans (hb.mono (Nat.le_trans hB0.size b1.size))
    by_cases hlt : k < n
    · obtain ⟨q, hq⟩ : ∃ q, L[k]? = some q := ⟨_, List.getElem?_eq_getElem (by rw [← unhide HN]; exact hlt)⟩
      obtain ⟨g, ap, mp, cp, us, rfl, -, hg, hvq, hpq, hc, hr⟩ := part_get (unhide HG) hq
      obtain ⟨sq, wq⟩ := unhide HS q (List.mem_of_getElem? hq)
      have hB1 : Below W0.heap.size W0 wr := b1.trans (hb.mono b1.size)
      have FL := hide (fun W (hW : Below wr.heap.size wr W) => flaw_ok q.2 us W (VlC.below (hB1.trans (hW.mono hB1.size)) _ _ hvq) sq wq)
      have HP := hide (hpq.below hb)
      have HQ := hide hq
      have c0 : wr.cell? ⟨g, k * 9, none⟩ = some (.slice ap mp cp) := (hb.cell (p := ⟨g, k * 9, none⟩) hg).trans hc
      have hr' : wr.rangeAt g (k * 9 + 1) us := fun j u hu => (hb.cell (p := ⟨g, k * 9 + 1 + j, none⟩) hg).trans (hr j u hu)
      have hgr : g < wr.heap.size := Nat.lt_of_lt_of_le hg hb.size
      obtain ⟨pa, u⟩ := q
      simp only at hvq hpq
      clear hq hr hc sq wq hpq
      generalize hE : flw u = X at *
      have HX := hide hE
      clear hE
      obtain ⟨ukd, ub, um, uf, utx, uty, uits, ufls⟩ := u
      unfold VlC at hvq
      obtain ⟨uai, uni, uci, uaf, unf, ucf, rfl, -⟩ := hvq
      obtain ⟨z0, z1, z2, z3, z4, z5, z6, z7⟩ := Row8.eight hr'
      have ki : (k : Int) < (n : Int) := by omega
      clear hr'
      go_wp2_with fail
      refine (unhide FL _ (Below.refl _ _)).mono ?_
      rintro e w2 ⟨rfl, b2⟩
      have c2 : w2.cell? ⟨g, k * 9, none⟩ = some (.slice ap mp cp) := (b2.cell (p := ⟨g, k * 9, none⟩) hgr).trans c0
      clear FL z0 z1 z2 z3 z4 z5 z6 z7 c0
      have hb2 : Below w1.heap.size w1 w2 := hb.trans (b2.mono hb.size)
      have hBw2 : Below w.heap.size w w2 := hBw.trans (b2.mono hBw.size)
      by_cases h0 : X = 0
      · subst h0
        have HZ := hide (show ∀ j x, j < k + 1 → L[j]? = some x → flw x.2 = 0 from fun j x hj hx => by
          by_cases h : j = k
          · subst h
            rw [unhide HQ] at hx
            cases hx
            exact unhide HX
          · exact unhide hz j x (by omega) hx)
        clear hz
        go_wp2
        go_roundw
        case rel => exact ⟨k + 1, by omega, by simp, HZ, hb2⟩
        case measure => simp [intOf]; omega
      · obtain ⟨e1, e2⟩ := unhide F1 k (pa, .mk ukd ub um uf utx uty uits ufls) (unhide HQ) (unhide hz) (by show flw _ ≠ 0; rw [unhide HX]; exact h0)
        have hX : (X != 0) = true := by simpa using h0
        rw [show flw (pa, Vl.mk ukd ub um uf utx uty uits ufls).2 = X from unhide HX] at e2
        simp only at e1
        subst e1 e2
        have HP2 := hide ((unhide HP).below b2)
        clear F1 F2 hz h0
        go_wp2
        go_ret2
        exact ⟨ap, mp, cp, rfl, unhide HP2, hBw2⟩
    · obtain rfl : k = n := by omega
      obtain ⟨e1, e2⟩ := unhide F2 (fun j x hj hx => unhide hz j x (by rw [unhide HN]; exact hj) hx)
      subst e1 e2
      go_wp2
      go_ret2
      exact ⟨none, 0, 0, rfl, ⟨rfl, .inl rfl⟩, hBw⟩
end Go.Proofs.YtechaplindbfoaaGreatDoor.og
