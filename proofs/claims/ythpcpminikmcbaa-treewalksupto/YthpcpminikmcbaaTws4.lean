import Derived.Test.YthpcpminikmcbaaTws3
namespace Go.Proofs.Ythpcpminikmcbaa.og
open Go.ChangeShapes Go.WideShapes Go.ChangeAt Go.RowKit
open vl hiding cB cFl cS cF cI cK cIt
open stp (St Pth St3)
set_option linter.unusedVariables false
set_option linter.unusedSimpArgs false
theorem OwL.get {E : Type} {Ow : World → E → List Value → List Nat → Prop} {w : World} {size : Nat} (hz : ∀ e cs F, Ow w e cs F → cs.length = size) : ∀ {l : List E} {xss : List (List Value)} {G : List Nat} {k : Nat} {e : E}, OwL Ow w l xss G → l[k]? = some e → ∃ cs F, Ow w e cs F ∧ ∀ j u, cs[j]? = some u → xss.flatten[k * size + j]? = some u
  | [], xss, G, k, e, h, hk => by simp at hk
  | v :: r, xss, G, k, e, h, hk => by
    obtain ⟨cs, l, G1, G2, rfl, h1, h2, rfl⟩ := h
    cases k with
    | zero =>
      obtain rfl : v = e := by simpa using hk
      refine ⟨cs, G1, h1, fun j u hu => ?_⟩
      rw [List.flatten_cons, Nat.zero_mul, Nat.zero_add, List.getElem?_append_left (List.getElem?_eq_some_iff.1 hu).1]
      exact hu
    | succ k =>
      obtain ⟨ds, F, c1, c2⟩ := OwL.get hz h2 (by simpa using hk)
      refine ⟨ds, F, c1, fun j u hu => ?_⟩
      rw [List.flatten_cons, List.getElem?_append_right (by rw [hz _ _ _ h1, Nat.succ_mul]; omega), hz _ _ _ h1, show (k + 1) * size + j - size = k * size + j by rw [Nat.succ_mul]; omega]
      exact c2 j u hu
theorem OwP.nine {V w : World} {q : List St × Vl} {cs : List Value} {F : List Nat} (h : OwP V w q cs F) : cs.length = 9 := by
  obtain ⟨ap, n, c, us, rfl, hv, -⟩ := h
  simp [hv.cells]
/-- a part of the list of parts -/
theorem part_get {V w : World} {B : Nat} {l : List (List St × Vl)} {a : Option Addr} {n c : Nat} {G : List Nat} (h : Grow (OwP V) 44 9 w B l (.slice a n c) G) {k : Nat} {q : List St × Vl} (hk : l[k]? = some q) :
    ∃ g ap m cp us, a = some ⟨g, 0, none⟩ ∧ n = l.length ∧ g < w.heap.size ∧ VlC V q.2 us ∧ Pth w ap m q.1 ∧ w.cell? ⟨g, k * 9, none⟩ = some (.slice ap m cp) ∧ w.rangeAt g (k * 9 + 1) us := by
  obtain ⟨xss, hr, hl⟩ := h.row
  obtain ⟨cs, F, h1, h2⟩ := OwL.get (fun e cs F h => OwP.nine h) hl hk
  have hlt := (List.getElem?_eq_some_iff.1 hk).1
  obtain ⟨g, cap, e, -, hg⟩ := hr.form (by omega)
  simp only [Value.slice.injEq] at e
  obtain ⟨rfl, rfl, rfl⟩ := e
  have hc := hr.cells (v := .slice (some ⟨g, 0, none⟩) l.length c) rfl
  obtain ⟨ap, m, cp, us, rfl, hv, hm, hp⟩ := h1
  have cell : ∀ j u, (Value.slice ap m cp :: us)[j]? = some u → w.cell? ⟨g, k * 9 + j, none⟩ = some u := fun j u hu => by
    have := hc _ u (h2 j u hu)
    rw [Addr.add_mid, Nat.zero_add] at this
    exact this
  refine ⟨g, ap, m, cp, us, rfl, rfl, hg, hv, PO.pth ⟨hm, hp⟩, by simpa using cell 0 _ rfl, fun j u hu => ?_⟩
  rw [show k * 9 + 1 + j = k * 9 + (j + 1) by omega]
  exact cell (j + 1) u (by simpa using hu)
set_option maxHeartbeats 4000000 in
set_option maxRecDepth 100000 in
theorem rparts_ok (v : Vl) (cs : List Value) (w : World) (hv : VlC w v cs) (hsm : Small v) (hc : cnt v ≤ 1048576) : Calls Try.prog 13 #[.agg cs.toArray] w fun e w' => ∃ a n c G, e = .returned (.slice a n c) ∧ Grow (OwP w) 44 9 w' w.heap.size (pts v []) (.slice a n c) G ∧ Below w.heap.size w w' := by
  have P := hide (fun W (hb : Below w.heap.size w W) => parts_ok v hsm w cs W [] none 0 0 [] [] (.slice none 0 0) [] hv hb Grow.nil ⟨rfl, .inl ⟨rfl, rfl⟩⟩ ⟨List.nodup_nil, by simp, fun b hb => by simp at hb⟩ (by simpa using hc) (by simpa using hc))
  simp only [List.nil_append] at P
  generalize pts v [] = L at *
  obtain ⟨kd, b, m, f, tx, ty, its, fls⟩ := v
  unfold VlC at hv
  obtain ⟨ai, ni, ci, af, nf, cf, rfl, -⟩ := hv
  have hsf := storeF
  clear hsm hc
  go_enter Try.func13, Try.ntmps13
  go_wp2_with fail
  refine (unhide P _ ((Below.refl _ _).alloc (Nat.le_refl _) _)).mono ?_
  rintro e w1 ⟨sl, G, rfl, hG, b1, -, -⟩
  obtain ⟨a, n, c, rfl⟩ := hG.form
  clear P
  go_wp2
  go_ret
  exact ⟨a, n, c, G, rfl, hG, ((Below.refl _ _).alloc (Nat.le_refl _) _).trans b1⟩
end Go.Proofs.Ythpcpminikmcbaa.og
