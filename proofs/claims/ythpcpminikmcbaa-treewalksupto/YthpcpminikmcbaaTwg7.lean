import Derived.Test.YthpcpminikmcbaaTwg6
import Derived.Test.YthpcpminikmcbaaTwg3
import Derived.RangeFuncNested
import Derived.RangeFuncBound
import Derived.RangeFuncCalls
import Derived.RangeFuncLeaves
import Derived.Shelf.Abstract
import Derived.Shelf.RegionOpen
import Derived.OwnWalkIn
import Derived.TacticsInMore
import Derived.LoopNIn
import Derived.LoopIn
import Derived.Lib.MinMax
namespace Go.Proofs.Ythpcpminikmcbaa.og
open Go.ChangeShapes Go.WideShapes Go.ChangeAt Go.RowKit
open vl hiding cB cFl cS cF cI cK cIt
set_option linter.unusedVariables false
set_option linter.unusedSimpArgs false
set_option maxHeartbeats 2000000 in
/-- tree.Equal -/
theorem equal_ok (v u : Vl) (hv : Small v) (hu : Small u) (cs ds : List Value) (w : World) (h1 : VlC w v cs) (h2 : VlC w u ds) : Calls Try.prog 17 #[.agg cs.toArray, .agg ds.toArray] w fun e w' => e = .returned (.bool (ordV v u == 0)) ∧ Below w.heap.size w w' := by
  have c8 := h1.cells
  have d8 := h2.cells
  have i1 : (Try.prog.info? 27).map (·.size) = some cs.length := by rw [c8]; exact infoV
  have i2 : (Try.prog.info? 27).map (·.size) = some ds.length := by rw [d8]; exact infoV
  obtain ⟨W, eW⟩ : ∃ W, W = (w.alloc (.cells cs.toArray 27)).alloc (.cells ds.toArray 27) := ⟨_, rfl⟩
  have bW : Gr w W := by rw [eW]; exact ((Gr.refl _).alloc _).alloc _
  have r1 : W.rangeAt w.heap.size 0 cs := fun j x hx => by
    rw [eW, Nat.zero_add, World.cell?_alloc_past _ _ _ (by simp), World.cell?_alloc_at _ _ _ _ rfl]; simpa using hx
  have r2 : W.rangeAt (w.heap.size + 1) 0 ds := fun j x hx => by
    rw [eW, Nat.zero_add, World.cell?_alloc_at _ _ _ _ (by simp)]; simpa using hx
  have EW := hide eW
  have HO := hide (order_ok v hv u hu cs ds W (VlC.below bW.1 _ _ h1) (VlC.below bW.1 _ _ h2))
  have HR := hide (And.intro r1 (And.intro r2 (And.intro i1 i2)))
  clear eW r1 r2 i1 i2 h1 h2 c8 d8
  generalize ordV v u = O at *
  go_enter Try.func17, Try.ntmps17
  go_wp2_with (first
    | (rw [← unhide EW]; refine wpList_load_mid (by rfl) 27 _ (by rfl) w.heap.size 0 (by rfl) cs _ (unhide HR).1 Try.underlying27 (by rfl) (unhide HR).2.2.1 ?_)
    | refine wpList_load_mid (by rfl) 27 _ (by rfl) (w.heap.size + 1) 0 (by rfl) ds _ (unhide HR).2.1 Try.underlying27 (by rfl) (unhide HR).2.2.2 ?_)
  refine (unhide HO).mono ?_
  rintro e w2 ⟨rfl, g2⟩
  go_wp2
  go_ret
  exact ⟨rfl, (bW.trans g2).1⟩
set_option maxHeartbeats 2000000 in
/-- tree.Same -/
theorem same_ok (v u : Vl) (hv : Small v) (hu : Small u) (cs ds : List Value) (w : World) (h1 : VlC w v cs) (h2 : VlC w u ds) : Calls Try.prog 29 #[.agg cs.toArray, .agg ds.toArray] w fun e w' => ∃ v' u', Srt v v' ∧ Srt u u' ∧ e = .returned (.bool (ordV v' u' == 0)) ∧ Below w.heap.size w w' := by
  have c8 := h1.cells
  have d8 := h2.cells
  have i1 : (Try.prog.info? 27).map (·.size) = some cs.length := by rw [c8]; exact infoV
  have i2 : (Try.prog.info? 27).map (·.size) = some ds.length := by rw [d8]; exact infoV
  obtain ⟨W, eW⟩ : ∃ W, W = (w.alloc (.cells cs.toArray 27)).alloc (.cells ds.toArray 27) := ⟨_, rfl⟩
  have bW : Gr w W := by rw [eW]; exact ((Gr.refl _).alloc _).alloc _
  have r1 : W.rangeAt w.heap.size 0 cs := fun j x hx => by
    rw [eW, Nat.zero_add, World.cell?_alloc_past _ _ _ (by simp), World.cell?_alloc_at _ _ _ _ rfl]; simpa using hx
  have r2 : W.rangeAt (w.heap.size + 1) 0 ds := fun j x hx => by
    rw [eW, Nat.zero_add, World.cell?_alloc_at _ _ _ _ (by simp)]; simpa using hx
  have v1 := VlC.below bW.1 _ _ h1
  have v2 := VlC.below bW.1 _ _ h2
  have EW := hide eW
  have HR := hide (And.intro r1 (And.intro r2 (And.intro i1 i2)))
  clear eW r1 r2 i1 i2 h1 h2 c8 d8
  go_enter Try.func29, Try.ntmps29
  go_wp2_with fail
  rw [← unhide EW]
  clear EW
  have hS0 : Gr W { W with drawn := W.drawn + 1 } := (Gr.refl _).drew
  refine wp_region_noPanic ?_
  refine wp_region_held (S := fun w' => Gr W w') mixed ?_
  refine wpAnyH_take (i := 0) rfl (by kernel_rfl) (by kernel_rfl) (by kernel_rfl) (fun _ _ _ h => h) (yieldsIf_load_mid (by rfl) 27 _ (by rfl) w.heap.size 0 (by rfl) cs _ (fun w' hw' => Row8.below (unhide HR).1 hw'.1) Try.underlying27 (by rfl) (unhide HR).2.2.1) hS0 ?_
  simp only [List.getElem_toArray, List.getElem_cons_zero, List.getElem_cons_succ, Act.put, List.setIfInBounds_toArray, List.set_cons_zero, List.set_cons_succ]
  refine wpAnyH_take (i := 2) rfl (by kernel_rfl) (by kernel_rfl) (by kernel_rfl) (fun _ _ _ h => h) (yieldsIf_load_mid (by rfl) 27 _ (by rfl) (w.heap.size + 1) 0 (by rfl) ds _ (fun w' hw' => Row8.below (unhide HR).2.1 hw'.1) Try.underlying27 (by rfl) (unhide HR).2.2.2) hS0 ?_
  simp only [List.getElem_toArray, List.getElem_cons_zero, List.getElem_cons_succ, Act.put, List.setIfInBounds_toArray, List.set_cons_zero, List.set_cons_succ]
  refine rgn.one (i := 1) _ rfl (by kernel_rfl) (by rfl) ?_
  simp only [List.getElem_toArray, List.getElem_cons_zero, List.getElem_cons_succ, Act.put, List.setIfInBounds_toArray, List.set_cons_zero, List.set_cons_succ]
  go_wp2_with fail
  refine (sorted_ok v hv (fun _ => False) cs _ (fun b hb => hb.elim) (AvC.of _ _ (VlC.below hS0.1 _ _ v1))).mono ?_
  rintro e w2 ⟨v', cs', rfl, hs1, ha1, g1⟩
  have hS0 : Gr W w2 := hS0.trans g1
  refine ⟨hS0, ?_⟩
  refine rgn.one (i := 3) _ rfl (by kernel_rfl) (by rfl) ?_
  simp only [List.getElem_toArray, List.getElem_cons_zero, List.getElem_cons_succ, Act.put, List.setIfInBounds_toArray, List.set_cons_zero, List.set_cons_succ]
  go_wp2_with fail
  refine (sorted_ok u hu (fun _ => False) ds _ (fun b hb => hb.elim) (AvC.of _ _ (VlC.below hS0.1 _ _ v2))).mono ?_
  rintro e w3 ⟨u', ds', rfl, hs2, ha2, g2⟩
  have hS0 : Gr W w3 := hS0.trans g2
  refine ⟨hS0, ?_⟩
  refine rgn.one (i := 4) _ rfl (by kernel_rfl) (by rfl) ?_
  simp only [List.getElem_toArray, List.getElem_cons_zero, List.getElem_cons_succ, Act.put, List.setIfInBounds_toArray, List.set_cons_zero, List.set_cons_succ]
  go_wp2_with fail
  refine (order_ok v' (Srt.small v v' hv hs1) u' (Srt.small u u' hu hs2) cs' ds' _ (AvC.read _ _ (ha1.below g2.1)) (AvC.read _ _ ha2)).mono ?_
  rintro e w4 ⟨rfl, g3⟩
  have hS0 : Gr W w4 := hS0.trans g3
  refine ⟨hS0, ?_⟩
  have HX := hide (And.intro hs1 hs2)
  clear hs1 hs2 ha1 ha2
  generalize hO : ordV v' u' = O at *
  have HO := hide hO
  clear hO
  refine wpAnyH_take (i := 5) (v := ?v1) rfl (by kernel_rfl) (by kernel_rfl) (by kernel_rfl) (fun _ _ _ h => h) (Or.inl ⟨by rfl, ?hy1⟩) hS0 ?_
  case hy1 => (intro w' hw';  go_simp; try with_reducible rfl)
  simp only [List.getElem_toArray, List.getElem_cons_zero, List.getElem_cons_succ, Act.put, List.setIfInBounds_toArray, List.set_cons_zero, List.set_cons_succ]
  refine wpAnyH_take (i := 6) (v := ?v2) rfl (by kernel_rfl) (by kernel_rfl) (by kernel_rfl) (fun _ _ _ h => h) (Or.inl ⟨by rfl, ?hy2⟩) hS0 ?_
  case hy2 => (intro w' hw';  go_simp; try with_reducible rfl)
  simp only [List.getElem_toArray, List.getElem_cons_zero, List.getElem_cons_succ, Act.put, List.setIfInBounds_toArray, List.set_cons_zero, List.set_cons_succ]
  refine wpAnyH_done (by kernel_rfl) ?_ _; refine NoPanic.normal ?_
  have G := (bW.trans hS0).1
  clear HR hS0 g1 g2 g3 v1 v2
  go_wp2
  go_ret
  exact ⟨v', u', (unhide HX).1, (unhide HX).2, by rw [unhide HO]; rfl, G⟩
end Go.Proofs.Ythpcpminikmcbaa.og
namespace Go.Proofs.Ythpcpminikmcbaa.og
open Go.ChangeShapes Go.WideShapes Go.ChangeAt Go.RowKit
open vl hiding cB cFl cS cF cI cK cIt
set_option linter.unusedVariables false
set_option linter.unusedSimpArgs false
mutual
/-- a value with the members of every object in the opposite order -/
def turnV : Vl → Vl
  | .mk kd b n f tx ty its fls => .mk kd b n f tx ty (turnI its) (turnF fls .nil)
def turnI : Vls → Vls
  | .nil => .nil
  | .cons v r => .cons (turnV v) (turnI r)
def turnF : Fls → Fls → Fls
  | .nil, a => a
  | .cons nm v r, a => turnF r (.cons nm (turnV v) a)
end
theorem turnI_list : ∀ l : Vls, (turnI l).list = l.list.map turnV
  | .nil => by simp [turnI, Vls.list]
  | .cons v r => by simp only [turnI, Vls.list, List.map_cons]; rw [turnI_list r]
theorem turnF_list : ∀ (l a : Fls), (turnF l a).list = l.list.reverse.map (fun q => (q.1, turnV q.2)) ++ a.list
  | .nil, a => by simp [turnF, Fls.list]
  | .cons nm v r, a => by rw [turnF, turnF_list r]; simp [Fls.list]
/-- the members, turned -/
def rvF (fls : Fls) : List (ByteArray × Vl) := fls.list.reverse.map (fun q => (q.1, turnV q.2))
theorem turnF_of (fls : Fls) : turnF fls .nil = Fls.of (rvF fls) := by
  rw [← Fls.of_list (turnF fls .nil), turnF_list]; simp [rvF, Fls.list]
theorem turnI_of (its : Vls) : turnI its = Vls.of (its.list.map turnV) := by rw [← Vls.of_list (turnI its), turnI_list]
theorem rvF_get {fls : Fls} {k j : Nat} {nm : ByteArray} {v : Vl} (h : fls.list[j]? = some (nm, v)) (hk : k + j + 1 = fls.list.length) : (rvF fls)[k]? = some (nm, turnV v) := by
  unfold rvF
  rw [List.getElem?_map, List.getElem?_reverse (by omega), show fls.list.length - 1 - k = j by omega, h]
  rfl
/-- as FnAt, without the count of draws -/
def FnB (g : Nat) (R : Vl → Vl → Prop) (v : Vl) : Prop := ∀ (Q : Nat → Prop) (cs : List Value) (w : World), (∀ b, Q b → b < w.heap.size) → AvC Q w v cs → Calls Try.prog g #[.agg cs.toArray] w fun e w' => ∃ (v' : Vl) (ds : List Value), e = .returned (.agg ds.toArray) ∧ R v v' ∧ AvC Q w' v' ds ∧ Below w.heap.size w w'
theorem OwsIn.there {w : World} {p : Nat} (hz : ∀ j, w.frozen? ⟨p, j, none⟩ = false) : ∀ (l : Vls) (off n : Nat) (G : List Nat), OwsIn w l p off n G → w.there p off (n * 8)
  | .nil, off, n, G, h => by unfold OwsIn at h; obtain ⟨rfl, -⟩ := h; intro j hj; omega
  | .cons v r, off, n, G, h => by
    unfold OwsIn at h
    obtain ⟨m, cs, G1, G2, rfl, h1, h2, h3, -⟩ := h
    have h8 := (OwC.read v cs G1 h2).cells
    intro j hj
    by_cases h : j < 8
    · refine ⟨?_, hz _⟩
      rw [h1 j cs[j] (List.getElem?_eq_getElem (by omega))]
      rfl
    · have := OwsIn.there hz r (off + 8) m G2 h3 (j - 8) (by omega)
      rwa [show off + 8 + (j - 8) = off + j by omega] at this
theorem OwfIn.there {w : World} {p : Nat} (hz : ∀ j, w.frozen? ⟨p, j, none⟩ = false) : ∀ (l : Fls) (off n : Nat) (G : List Nat), OwfIn w l p off n G → w.there p off (n * 9)
  | .nil, off, n, G, h => by unfold OwfIn at h; obtain ⟨rfl, -⟩ := h; intro j hj; omega
  | .cons nm v r, off, n, G, h => by
    unfold OwfIn at h
    obtain ⟨m, cs, G1, G2, rfl, h0, hz', h1, h2, h3, -⟩ := h
    have h8 := (OwC.read v cs G1 h2).cells
    intro j hj
    by_cases h : j < 9
    · refine ⟨?_, hz _⟩
      cases j with
      | zero => rw [Nat.add_zero, h0]; rfl
      | succ j =>
        rw [show off + (j + 1) = off + 1 + j by omega, h1 j cs[j] (List.getElem?_eq_getElem (by omega))]
        rfl
    · have := OwfIn.there hz r (off + 9) m G2 h3 (j - 9) (by omega)
      rwa [show off + 9 + (j - 9) = off + j by omega] at this
theorem OwsIn.row {Q : Nat → Prop} {w : World} {p : Nat} : ∀ (l : Vls) (off n : Nat) (G : List Nat), (∀ b ∈ G, ¬ Q b) → OwsIn w l p off n G → ∀ (i : Nat) (v : Vl), l.list[i]? = some v → ∃ us, Row8 w p (off + i * 8) us ∧ AvC Q w v us
  | .nil, off, n, G, hG, h, i, v, hv => by simp [Vls.list] at hv
  | .cons u r, off, n, G, hG, h, i, v, hv => by
    unfold OwsIn at h
    obtain ⟨m, cs, G1, G2, rfl, h1, h2, h3, rfl⟩ := h
    cases i with
    | zero =>
      simp [Vls.list] at hv
      subst hv
      exact ⟨cs, by simpa using h1, OwC.av _ _ _ (fun b hb => hG b (List.mem_append_left _ hb)) h2⟩
    | succ i =>
      obtain ⟨us, g1, g2⟩ := OwsIn.row r (off + 8) m G2 (fun b hb => hG b (List.mem_append_right _ hb)) h3 i v (by simpa [Vls.list] using hv)
      exact ⟨us, by rw [show off + (i + 1) * 8 = off + 8 + i * 8 by omega]; exact g1, g2⟩
mutual
theorem Small.turn : ∀ v : Vl, Small v → Small (turnV v)
  | .mk kd b n f tx ty its fls, h => by
    unfold turnV
    unfold Small at h ⊢
    obtain ⟨h1, h2, h3, h4, h5⟩ := h
    exact ⟨by rw [turnI_list, List.length_map]; exact h1, by rw [turnF_list]; simp [Fls.list]; exact h2, h3, SmallI.turn its h4, SmallF.turn fls .nil h5 (by simp [SmallF])⟩
theorem SmallI.turn : ∀ l : Vls, SmallI l → SmallI (turnI l)
  | .nil, h => by simp [turnI, SmallI]
  | .cons v r, h => by
    unfold SmallI at h
    unfold turnI SmallI
    exact ⟨Small.turn v h.1, SmallI.turn r h.2⟩
theorem SmallF.turn : ∀ (l a : Fls), SmallF l → SmallF a → SmallF (turnF l a)
  | .nil, a, h, ha => by unfold turnF; exact ha
  | .cons nm v r, a, h, ha => by
    unfold SmallF at h
    unfold turnF
    exact SmallF.turn r _ h.2 (by unfold SmallF; exact ⟨Small.turn v h.1, ha⟩)
end
end Go.Proofs.Ythpcpminikmcbaa.og
namespace Go.Proofs.Ythpcpminikmcbaa.og
open Go.ChangeShapes Go.WideShapes Go.ChangeAt Go.RowKit
open vl hiding cB cFl cS cF cI cK cIt
open stp (c3 c3_eq cB cB_tri)
set_option linter.unusedVariables false
set_option linter.unusedSimpArgs false
/-- two lists, element by element -/
def P2 {α β : Type} (R : α → β → Prop) : List α → List β → Prop
  | [], [] => True
  | a :: l, b :: r => R a b ∧ P2 R l r
  | [], _ :: _ => False
  | _ :: _, [] => False
theorem P2.imp {α β : Type} {R R' : α → β → Prop} : ∀ {l : List α} {r : List β}, P2 R l r → (∀ a ∈ l, ∀ b ∈ r, R a b → R' a b) → P2 R' l r
  | [], [], _, _ => trivial
  | a :: l, b :: r, h, hi => ⟨hi a (List.mem_cons_self ..) b (List.mem_cons_self ..) h.1, P2.imp h.2 (fun x hx y hy => hi x (List.mem_cons_of_mem _ hx) y (List.mem_cons_of_mem _ hy))⟩
  | [], _ :: _, h, _ => h.elim
  | _ :: _, [], h, _ => h.elim
/-- through a common list -/
theorem P2.join {α β γ : Type} {R : α → β → Prop} {S : α → γ → Prop} {T : β → γ → Prop} : ∀ {l : List α} {m : List β} {r : List γ}, P2 R l m → P2 S l r → (∀ a ∈ l, ∀ b ∈ m, ∀ c ∈ r, R a b → S a c → T b c) → P2 T m r
  | [], [], [], _, _, _ => trivial
  | a :: l, b :: m, c :: r, h, k, hi => ⟨hi a (List.mem_cons_self ..) b (List.mem_cons_self ..) c (List.mem_cons_self ..) h.1 k.1, P2.join h.2 k.2 (fun x hx y hy z hz => hi x (List.mem_cons_of_mem _ hx) y (List.mem_cons_of_mem _ hy) z (List.mem_cons_of_mem _ hz))⟩
  | [], _ :: _, _, h, _, _ => h.elim
  | _ :: _, [], _, h, _, _ => h.elim
  | [], [], _ :: _, _, k, _ => k.elim
  | _ :: _, _ :: _, [], _, k, _ => k.elim
theorem P2.symm {α β : Type} {R : α → β → Prop} : ∀ {l : List α} {r : List β}, P2 R l r → P2 (fun b a => R a b) r l
  | [], [], _ => trivial
  | a :: l, b :: r, h => ⟨h.1, P2.symm h.2⟩
  | [], _ :: _, h => h.elim
  | _ :: _, [], h => h.elim
theorem P2.perm {α β : Type} {R : α → β → Prop} {l l' : List α} (hp : l.Perm l') : ∀ {m : List β}, P2 R l m → ∃ m', m.Perm m' ∧ P2 R l' m' := by
  induction hp with
  | nil => intro m h; exact ⟨m, List.Perm.refl _, h⟩
  | cons x _ ih =>
    intro m h
    match m, h with
    | b :: m, h =>
      obtain ⟨m', h1, h2⟩ := ih h.2
      exact ⟨b :: m', h1.cons b, h.1, h2⟩
    | [], h => exact h.elim
  | swap x y l =>
    intro m h
    match m, h with
    | b :: c :: m, h => exact ⟨c :: b :: m, List.Perm.swap .., h.2.1, h.1, h.2.2⟩
    | [_], h => exact h.2.elim
    | [], h => exact h.elim
  | trans _ _ ih1 ih2 =>
    intro m h
    obtain ⟨m1, p1, h1⟩ := ih1 h
    obtain ⟨m2, p2, h2⟩ := ih2 h1
    exact ⟨m2, p1.trans p2, h2⟩
theorem P2.split {α β : Type} {R : α → β → Prop} {b : β} {t : List β} : ∀ {l : List α} {s : List β}, P2 R l (s ++ b :: t) → ∃ s' a t', l = s' ++ a :: t' ∧ P2 R s' s ∧ R a b ∧ P2 R t' t
  | [], [], h => h.elim
  | [], _ :: _, h => h.elim
  | a :: l, [], h => ⟨[], a, l, rfl, trivial, h.1, h.2⟩
  | a :: l, c :: s, h => by
    obtain ⟨s', a', t', e, h1, h2, h3⟩ := P2.split (l := l) (s := s) h.2
    exact ⟨a :: s', a', t', by rw [e]; rfl, ⟨h.1, h1⟩, h2, h3⟩
theorem P2.glue {α β : Type} {R : α → β → Prop} {a : α} {b : β} {t' : List α} {t : List β} (hab : R a b) (ht : P2 R t' t) : ∀ {s' : List α} {s : List β}, P2 R s' s → P2 R (s' ++ a :: t') (s ++ b :: t)
  | [], [], _ => ⟨hab, ht⟩
  | _ :: _, _ :: _, h => ⟨h.1, P2.glue hab ht h.2⟩
  | [], _ :: _, h => h.elim
  | _ :: _, [], h => h.elim
/-- no later one is ahead of an earlier one -/
def Sd {α : Type} (f : α → α → Int) : List α → Prop
  | [] => True
  | a :: l => (∀ x ∈ l, f a x ≤ 0) ∧ Sd f l
/-- two lists in order that are the same but for the order, up to level ones, are level throughout -/
theorem canon {α : Type} (f : α → α → Int) (S : α → Prop) (hR : ∀ x y, S x → S y → Rg (f x y)) (hT : ∀ x y z, S x → S y → S z → Tr (f x y) (f y z) (f x z)) (hs : ∀ x, S x → f x x = 0) :
    ∀ (A B m : List α), (∀ x ∈ A, S x) → (∀ x ∈ B, S x) → Sd f A → Sd f B → P2 (fun x y => f x y = 0) A m → B.Perm m → P2 (fun x y => f x y = 0) A B
  | [], B, m, _, _, _, _, hP, hp => by
    match m, hP with
    | [], _ => rw [List.Perm.eq_nil hp]; trivial
    | _ :: _, h => exact h.elim
  | a :: A, B, m, hA, hB, sA, sB, hP, hp => by
    match m, hP with
    | [], h => exact h.elim
    | b0 :: m, hP =>
      match B, hp, hB, sB with
      | [], hp, _, _ => exact absurd hp.symm.eq_nil (by simp)
      | b1 :: B, hp, hB, sB =>
        have Sa := hA a (List.mem_cons_self ..)
        have Sb1 := hB b1 (List.mem_cons_self ..)
        have hb0 : b0 ∈ b1 :: B := hp.mem_iff.2 (List.mem_cons_self ..)
        have Sb0 := hB b0 hb0
        have m1 : b1 ∈ b0 :: m := hp.mem_iff.1 (List.mem_cons_self ..)
        have l10 : f b1 b0 ≤ 0 := by
          rcases List.mem_cons.1 hb0 with e | h
          · rw [e, hs b1 Sb1]; exact Int.le_refl _
          · exact sB.1 b0 h
        rcases List.mem_cons.1 m1 with e | h
        · subst e
          exact ⟨hP.1, canon f S hR hT hs A B m (fun x hx => hA x (List.mem_cons_of_mem _ hx)) (fun x hx => hB x (List.mem_cons_of_mem _ hx)) sA.2 sB.2 hP.2 (hp.cons_inv)⟩
        · obtain ⟨s, t, rfl⟩ := List.append_of_mem h
          obtain ⟨s', a1, t', rfl, h1, h2, h3⟩ := P2.split hP.2
          have ma1 : a1 ∈ s' ++ a1 :: t' := List.mem_append_right _ (List.mem_cons_self ..)
          have Sa1 := hA a1 (List.mem_cons_of_mem _ ma1)
          have laa := sA.1 a1 ma1
          have t1 := hT a a1 b1 Sa Sa1 Sb1
          have t2 := hT a b1 b0 Sa Sb1 Sb0
          have t3 := hT a1 b1 b0 Sa1 Sb1 Sb0
          have e0 : f a b0 = 0 := hP.1
          unfold Tr at t1 t2 t3
          have z1 : f a b1 = 0 := by have := t1.2.1 h2; have := t2.2.2.2 e0; omega
          have z2 : f b1 b0 = 0 := by have := t2.2.2.2 e0; omega
          have z3 : f a1 b0 = 0 := by have := t3.1 h2; omega
          have hp2 : (b1 :: B).Perm (b1 :: (s ++ b0 :: t)) := by
            refine hp.trans ?_
            have e1 : (b0 :: (s ++ b1 :: t)).Perm (b0 :: b1 :: (s ++ t)) := List.Perm.cons _ List.perm_middle
            have e2 : (b1 :: (s ++ b0 :: t)).Perm (b1 :: b0 :: (s ++ t)) := List.Perm.cons _ List.perm_middle
            exact e1.trans ((List.Perm.swap ..).trans e2.symm)
          exact ⟨z1, canon f S hR hT hs _ B _ (fun x hx => hA x (List.mem_cons_of_mem _ hx)) (fun x hx => hB x (List.mem_cons_of_mem _ hx)) sA.2 sB.2 (P2.glue (R := fun x y => f x y = 0) z3 h3 h1) hp2.cons_inv⟩
theorem lexG_p2 {α : Type} {f : α → α → Int} : ∀ {l r : List α}, P2 (fun x y => f x y = 0) l r → lexG f l r = 0
  | [], [], _ => rfl
  | a :: l, b :: r, h => by rw [lexG_cons, show f a b = 0 from h.1]; exact lexG_p2 h.2
  | [], _ :: _, h => h.elim
  | _ :: _, [], h => h.elim
theorem p2_lexG {α : Type} {f : α → α → Int} : ∀ {l r : List α}, lexG f l r = 0 → P2 (fun x y => f x y = 0) l r
  | [], [], _ => trivial
  | a :: l, b :: r, h => by
    rw [lexG_cons] at h
    unfold thn at h
    split at h
    · exact ⟨by assumption, p2_lexG h⟩
    · exact absurd h (by assumption)
  | [], _ :: _, h => by simp [lexG] at h
  | _ :: _, [], h => by simp [lexG] at h
theorem Srtd.sd : ∀ {l : List (ByteArray × Vl)}, Srtd l → Sd ordM l
  | [], _ => trivial
  | a :: l, h => ⟨fun x hx => by
      obtain ⟨i, hi⟩ := List.mem_iff_getElem?.1 hx
      exact h 0 (i + 1) a x (by omega) rfl (by simpa using hi), Srtd.sd (fun i j x y hij hx hy => h (i + 1) (j + 1) x y (by omega) (by simpa using hx) (by simpa using hy))⟩
theorem SrtI.p2 : ∀ {its : Vls} {l : List Vl}, SrtI its l → P2 Srt its.list l
  | .nil, l, h => by unfold SrtI at h; subst h; trivial
  | .cons v r, l, h => by
    unfold SrtI at h
    obtain ⟨v', l', rfl, h1, h2⟩ := h
    exact ⟨h1, SrtI.p2 h2⟩
theorem SrtF.p2 : ∀ {fls : Fls} {l : List (ByteArray × Vl)}, SrtF fls l → P2 (fun p q => q.1 = p.1 ∧ Srt p.2 q.2) fls.list l
  | .nil, l, h => by unfold SrtF at h; subst h; trivial
  | .cons nm v r, l, h => by
    unfold SrtF at h
    obtain ⟨v', l', rfl, h1, h2⟩ := h
    exact ⟨⟨rfl, h1⟩, SrtF.p2 h2⟩
mutual
/-- the same but for the members' order -/
def Pm : Vl → Vl → Prop
  | .mk kd b n f tx ty its fls, .mk kd' b' n' f' tx' ty' its' fls' => kdOf kd = kdOf kd' ∧ (if kdOf kd = 5 then PmI its its'.list else if kdOf kd = 6 then ∃ m, fls'.list.Perm m ∧ PmF fls m else leafV (kdOf kd) (.mk kd b n f tx ty its fls) (.mk kd' b' n' f' tx' ty' its' fls') = 0)
def PmI : Vls → List Vl → Prop
  | .nil, l => l = []
  | .cons v r, l => ∃ u l', l = u :: l' ∧ Pm v u ∧ PmI r l'
def PmF : Fls → List (ByteArray × Vl) → Prop
  | .nil, l => l = []
  | .cons nm v r, l => ∃ u l', l = (nm, u) :: l' ∧ Pm v u ∧ PmF r l'
end
theorem PmI.p2 : ∀ {its : Vls} {l : List Vl}, PmI its l → P2 Pm its.list l
  | .nil, l, h => by unfold PmI at h; subst h; trivial
  | .cons v r, l, h => by
    unfold PmI at h
    obtain ⟨v', l', rfl, h1, h2⟩ := h
    exact ⟨h1, PmI.p2 h2⟩
theorem PmF.p2 : ∀ {fls : Fls} {l : List (ByteArray × Vl)}, PmF fls l → P2 (fun p q => q.1 = p.1 ∧ Pm p.2 q.2) fls.list l
  | .nil, l, h => by unfold PmF at h; subst h; trivial
  | .cons nm v r, l, h => by
    unfold PmF at h
    obtain ⟨v', l', rfl, h1, h2⟩ := h
    exact ⟨⟨rfl, h1⟩, PmF.p2 h2⟩
theorem PmI.of : ∀ {its : Vls} {l : List Vl}, P2 Pm its.list l → PmI its l
  | .nil, [], _ => by unfold PmI; rfl
  | .nil, _ :: _, h => h.elim
  | .cons v r, [], h => h.elim
  | .cons v r, u :: l, h => by unfold PmI; exact ⟨u, l, rfl, h.1, PmI.of h.2⟩
theorem PmF.of : ∀ {fls : Fls} {l : List (ByteArray × Vl)}, P2 (fun p q => q.1 = p.1 ∧ Pm p.2 q.2) fls.list l → PmF fls l
  | .nil, [], _ => by unfold PmF; rfl
  | .nil, _ :: _, h => h.elim
  | .cons nm v r, [], h => h.elim
  | .cons nm v r, u :: l, h => by
    unfold PmF
    exact ⟨u.2, l, by rw [← show u.1 = nm from h.1.1], h.1.2, PmF.of h.2⟩
end Go.Proofs.Ythpcpminikmcbaa.og
namespace Go.Proofs.Ythpcpminikmcbaa.og
open Go.ChangeShapes Go.WideShapes Go.ChangeAt Go.RowKit
open vl hiding cB cFl cS cF cI cK cIt
open stp (c3 c3_eq cB cB_tri)
set_option linter.unusedVariables false
set_option linter.unusedSimpArgs false
theorem thn_zero (b : Int) : thn 0 b = b := if_pos rfl
theorem kdOf_five {k : Int} (h : kdOf k = 5) : k = 5 := by unfold kdOf at h; split at h <;> omega
theorem kdOf_six {k : Int} (h : kdOf k = 6) : k = 6 := by unfold kdOf at h; split at h <;> omega
theorem kdOf_n5 {k : Int} (h : kdOf k ≠ 5) : k ≠ 5 := fun e => h (by subst e; decide)
theorem kdOf_n6 {k : Int} (h : kdOf k ≠ 6) : k ≠ 6 := fun e => h (by subst e; decide)
theorem leaf_five (kd : Int) (b : Bool) (n : Int) (f : Nat) (tx ty : ByteArray) (its : Vls) (fls : Fls) (kd' : Int) (b' : Bool) (n' : Int) (f' : Nat) (tx' ty' : ByteArray) (its' : Vls) (fls' : Fls) : leafV 5 (.mk kd b n f tx ty its fls) (.mk kd' b' n' f' tx' ty' its' fls') = lexG ordV its.list its'.list := by simp [leafV]
theorem leaf_six (kd : Int) (b : Bool) (n : Int) (f : Nat) (tx ty : ByteArray) (its : Vls) (fls : Fls) (kd' : Int) (b' : Bool) (n' : Int) (f' : Nat) (tx' ty' : ByteArray) (its' : Vls) (fls' : Fls) : leafV 6 (.mk kd b n f tx ty its fls) (.mk kd' b' n' f' tx' ty' its' fls') = lexG ordM fls.list fls'.list := by simp [leafV]
/-- what is the same but for the members' order is level when it is sorted -/
theorem pm_srt : ∀ v : Vl, Small v → ∀ u : Vl, Small u → Pm v u → ∀ v' u' : Vl, Srt v v' → Srt u u' → ordV v' u' = 0 := by
  refine Vl.all ?_
  intro kd b n f tx ty its fls hI hF hs u hu hp v' u' h1 h2
  have sv' := Srt.small _ _ hs h1
  have su' := Srt.small _ _ hu h2
  obtain ⟨kd', b', n', f', tx', ty', its', fls'⟩ := u
  unfold Pm at hp
  obtain ⟨hk, hp⟩ := hp
  unfold Srt at h1 h2
  obtain ⟨i1, f1, rfl, h1⟩ := h1
  obtain ⟨i2, f2, rfl, h2⟩ := h2
  rw [ordV_thn]
  show thn (c3 (kdOf kd) (kdOf kd')) (leafV (kdOf kd) _ _) = 0
  rw [c3_eq hk, thn_zero]
  unfold Small at hs hu sv' su'
  by_cases h5 : kdOf kd = 5
  · rw [if_pos h5] at hp
    obtain rfl := kdOf_five h5
    obtain rfl := kdOf_five (hk.symm.trans h5)
    rw [if_pos rfl] at h1 h2
    rw [h5, leaf_five]
    refine lexG_p2 ?_
    have q1 := SrtI.p2 h1.1
    have q2 := SrtI.p2 h2.1
    have q3 := PmI.p2 hp
    -- through its.list, then through its'.list
    have q4 : P2 (fun (x : Vl) (y' : Vl) => ∃ y, y ∈ its'.list ∧ Pm x y ∧ Srt y y') its.list i2.list := by
      have := P2.join (T := fun (x : Vl) (y' : Vl) => ∃ y, y ∈ its'.list ∧ Pm x y ∧ Srt y y') q3.symm q2 (fun y hy x _ y' _ h k => ⟨y, hy, h, k⟩)
      exact this
    exact P2.join q1 q4 (fun x hx x' _ y' _ h ⟨y, hy, k1, k2⟩ => hI x hx (hs.2.2.2.1.all x hx) y (hu.2.2.2.1.all y hy) k1 x' y' h k2)
  · rw [if_neg h5] at hp
    have n5 := kdOf_n5 h5
    have n5' := kdOf_n5 (k := kd') (by rw [← hk]; exact h5)
    rw [if_neg n5] at h1
    rw [if_neg n5'] at h2
    by_cases h6 : kdOf kd = 6
    · rw [if_pos h6] at hp
      obtain rfl := kdOf_six h6
      obtain rfl := kdOf_six (hk.symm.trans h6)
      rw [if_pos rfl] at h1 h2
      obtain ⟨rfl, m1, g1, p1, s1⟩ := h1
      obtain ⟨rfl, m2, g2, p2, s2⟩ := h2
      obtain ⟨m, pm, q3⟩ := hp
      have q1 := SrtF.p2 g1
      have q2 := SrtF.p2 g2
      have q3 := PmF.p2 q3
      obtain ⟨m2', pp, q2'⟩ := P2.perm pm q2
      have hmem : ∀ y ∈ m, y ∈ fls'.list := fun y hy => pm.mem_iff.2 hy
      have q4 : P2 (fun (x : ByteArray × Vl) (y' : ByteArray × Vl) => ∃ y, y ∈ fls'.list ∧ (y.1 = x.1 ∧ Pm x.2 y.2) ∧ y'.1 = y.1 ∧ Srt y.2 y'.2) fls.list m2' := P2.join (T := fun (x : ByteArray × Vl) (y' : ByteArray × Vl) => ∃ y, y ∈ fls'.list ∧ (y.1 = x.1 ∧ Pm x.2 y.2) ∧ y'.1 = y.1 ∧ Srt y.2 y'.2) q3.symm q2' (fun y hy x _ y' _ h k => ⟨y, hmem y hy, h, k⟩)
      have q5 : P2 (fun x y => ordM x y = 0) m1 m2' := P2.join q1 q4 (fun x hx x' _ y' _ h ⟨y, hy, k1, k2⟩ => by
        have e := hF x hx (hs.2.2.2.2.all x hx) y.2 (hu.2.2.2.2.all y hy) k1.2 x'.2 y'.2 h.2 k2.2
        show ordM x' y' = 0
        rw [ordM_thn, h.1, k2.1, k1.1, cB_self, e]
        rfl)
      obtain ⟨m3, pq, q6⟩ := P2.perm p1.symm q5
      rw [h6, leaf_six]
      refine lexG_p2 (canon ordM (fun q => Small q.2) (fun x y hx hy => Rg.ordM x y hx hy) (fun x y z hx hy hz => Tr.ordM x y z hx hy hz) (fun x _ => by rw [ordM_thn, cB_self, ordV_self]; rfl) f1.list f2.list m3 (fun x hx => sv'.2.2.2.2.all x hx) (fun x hx => su'.2.2.2.2.all x hx) s1.sd s2.sd q6 ?_)
      exact (p2.trans pp).trans pq
    · rw [if_neg h6] at hp
      rw [if_neg (kdOf_n6 h6)] at h1
      rw [if_neg (kdOf_n6 (k := kd') (by rw [← hk]; exact h6))] at h2
      obtain ⟨rfl, rfl⟩ := h1
      obtain ⟨rfl, rfl⟩ := h2
      exact hp
theorem P2.self {α : Type} {R : α → α → Prop} : ∀ l : List α, (∀ x ∈ l, R x x) → P2 R l l
  | [], _ => trivial
  | a :: l, h => ⟨h a (List.mem_cons_self ..), P2.self l (fun x hx => h x (List.mem_cons_of_mem _ hx))⟩
theorem P2.mapped {α β : Type} {R : α → β → Prop} {g : α → β} : ∀ l : List α, (∀ x ∈ l, R x (g x)) → P2 R l (l.map g)
  | [], _ => trivial
  | a :: l, h => ⟨h a (List.mem_cons_self ..), P2.mapped l (fun x hx => h x (List.mem_cons_of_mem _ hx))⟩
theorem leaf_self (v : Vl) : leafV (kdW v) v v = 0 := by
  have := ordV_self v
  rw [ordV_thn, c3_eq rfl, thn_zero] at this
  exact this
/-- kinds without parts: the parts make no difference -/
theorem leaf_other {K : Int} (h5 : K ≠ 5) (h6 : K ≠ 6) (kd kd' : Int) (b : Bool) (n : Int) (f : Nat) (tx ty : ByteArray) (its its' : Vls) (fls fls' : Fls) : leafV K (.mk kd b n f tx ty its fls) (.mk kd' b n f tx ty its' fls') = leafV K (.mk kd b n f tx ty its fls) (.mk kd b n f tx ty its fls) := by
  simp only [leafV]
  rw [if_neg h5, if_neg h6, if_neg h5, if_neg h6]
theorem Pm.refl : ∀ v : Vl, Pm v v := by
  refine Vl.all ?_
  intro kd b n f tx ty its fls hI hF
  unfold Pm
  refine ⟨rfl, ?_⟩
  split
  · exact PmI.of (P2.self _ hI)
  · split
    · exact ⟨_, List.Perm.refl _, PmF.of (P2.self _ (fun q hq => ⟨rfl, hF q hq⟩))⟩
    · exact leaf_self (.mk kd b n f tx ty its fls)
theorem Pm.turn : ∀ v : Vl, Pm v (turnV v) := by
  refine Vl.all ?_
  intro kd b n f tx ty its fls hI hF
  unfold turnV Pm
  refine ⟨rfl, ?_⟩
  split
  · rw [turnI_list]
    exact PmI.of (P2.mapped _ hI)
  · split
    · rw [turnF_list]
      refine ⟨fls.list.map (fun q => (q.1, turnV q.2)), ?_, PmF.of (P2.mapped _ (fun q hq => ⟨rfl, hF q hq⟩))⟩
      simp only [Fls.list, List.append_nil]
      exact (List.reverse_perm _).map _
    · rw [leaf_other (by assumption) (by assumption)]
      exact leaf_self (.mk kd b n f tx ty its fls)
/-- what is level is the same -/
theorem Pm.of_ord : ∀ v u : Vl, ordV v u = 0 → Pm v u := by
  refine Vl.all (P := fun v => ∀ u : Vl, ordV v u = 0 → Pm v u) ?_
  intro kd b n f tx ty its fls hI hF u h
  obtain ⟨kd', b', n', f', tx', ty', its', fls'⟩ := u
  rw [ordV_thn] at h
  have hk : c3 (kdOf kd) (kdOf kd') = 0 := by
    unfold thn at h
    split at h
    · assumption
    · exact absurd h (by assumption)
  have hl : leafV (kdOf kd) (.mk kd b n f tx ty its fls) (.mk kd' b' n' f' tx' ty' its' fls') = 0 := by
    have h' : thn (c3 (kdOf kd) (kdOf kd')) (leafV (kdOf kd) (.mk kd b n f tx ty its fls) (.mk kd' b' n' f' tx' ty' its' fls')) = 0 := h
    rw [hk, thn_zero] at h'
    exact h'
  unfold Pm
  refine ⟨c3_zero' hk, ?_⟩
  by_cases h5 : kdOf kd = 5
  · rw [if_pos h5]
    rw [h5, leaf_five] at hl
    exact PmI.of (P2.imp (p2_lexG hl) (fun x hx y _ e => hI x hx y e))
  · rw [if_neg h5]
    by_cases h6 : kdOf kd = 6
    · rw [if_pos h6]
      rw [h6, leaf_six] at hl
      refine ⟨_, List.Perm.refl _, PmF.of (P2.imp (p2_lexG hl) (fun x hx y _ e => ?_))⟩
      have e : ordM x y = 0 := e
      rw [ordM_thn] at e
      unfold thn at e
      split at e
      · rename_i hc
        rcases cB_tri x.1 y.1 with ⟨h, _⟩ | ⟨_, _, h⟩ | ⟨h, _⟩
        · rw [h] at hc; omega
        · exact ⟨h.symm, hF x hx y.2 e⟩
        · rw [h] at hc; omega
      · rename_i hc
        exact absurd e hc
    · rw [if_neg h6]
      exact hl
end Go.Proofs.Ythpcpminikmcbaa.og
namespace Go.Proofs.Ythpcpminikmcbaa.og
open Go.ChangeShapes Go.WideShapes Go.ChangeAt Go.RowKit
open vl hiding cB cFl cS cF cI cK cIt
set_option linter.unusedVariables false
set_option linter.unusedSimpArgs false
/-- what lies there while a value is turned: w0 the world at the call, B2 the block of w, p and q the rows of its items and members; k items and m members are done -/
structure TnS (Q : Nat → Prop) (w0 : World) (B2 p q : Nat) (its : Vls) (fls : Fls) (nI nf : Nat) (cs ds : List Value) (k m : Nat) (w : World) : Prop where
  c0 : w.rangeAt w0.heap.size 0 cs
  c2 : w.rangeAt B2 0 ds
  th : w.there (w0.heap.size + 1) 0 8
  thI : w.there p 0 (nI * 8)
  thF : w.there q 0 (nf * 9)
  dI : ∀ (i : Nat) (v : Vl), i < k → its.list[i]? = some v → ∃ us, Row8 w p (i * 8) us ∧ AvC Q w (turnV v) us
  rI : ∀ (i : Nat) (v : Vl), k ≤ i → its.list[i]? = some v → ∃ us, Row8 w p (i * 8) us ∧ AvC Q w v us
  dF : ∀ (i : Nat) (x : ByteArray × Vl), i < m → (rvF fls)[i]? = some x → ∃ us, w.cell? ⟨q, i * 9, none⟩ = some (.string x.1) ∧ x.1.size ≤ maxLen ∧ Row8 w q (i * 9 + 1) us ∧ AvC Q w x.2 us
  bel : Below w0.heap.size w0 w
  siz : B2 < w.heap.size
theorem TnS.below {Q : Nat → Prop} {w0 : World} {B2 p q : Nat} {its : Vls} {fls : Fls} {nI nf : Nat} {cs ds : List Value} {k m : Nat} {w w' : World} (h : TnS Q w0 B2 p q its fls nI nf cs ds k m w) (hB : w0.heap.size + 1 < B2) (hp : nI = 0 ∨ p < B2) (hq : nf = 0 ∨ q < B2) (hb : Below w.heap.size w w') : TnS Q w0 B2 p q its fls nI nf cs ds k m w' where
  c0 := fun j u hu => (hb.cell (p := ⟨w0.heap.size, 0 + j, none⟩) (by have := h.siz; show w0.heap.size < _; omega)).trans (h.c0 j u hu)
  c2 := fun j u hu => (hb.cell (p := ⟨B2, 0 + j, none⟩) h.siz).trans (h.c2 j u hu)
  th := there_below h.th hb (by have := h.siz; omega)
  thI := by
    rcases hp with hp | hp
    · subst hp; intro j hj; omega
    · exact there_below h.thI hb (by have := h.siz; omega)
  thF := by
    rcases hq with hq | hq
    · subst hq; intro j hj; omega
    · exact there_below h.thF hb (by have := h.siz; omega)
  dI := fun i v hi hv => by
    obtain ⟨us, r1, r2⟩ := h.dI i v hi hv
    exact ⟨us, Row8.below r1 hb, r2.below hb⟩
  rI := fun i v hi hv => by
    obtain ⟨us, r1, r2⟩ := h.rI i v hi hv
    exact ⟨us, Row8.below r1 hb, r2.below hb⟩
  dF := fun i x hi hx => by
    obtain ⟨us, r0, rz, r1, r2⟩ := h.dF i x hi hx
    exact ⟨us, (hb.cell (World.block_lt_of_cell? _ _ r0)).trans r0, rz, Row8.below r1 hb, r2.below hb⟩
  bel := h.bel.trans (hb.mono h.bel.size)
  siz := Nat.lt_of_lt_of_le h.siz hb.size
/-- the next item is written -/
theorem TnS.putI {Q : Nat → Prop} {w0 : World} {B2 p q : Nat} {its : Vls} {fls : Fls} {nI nf : Nat} {cs ds : List Value} {k m : Nat} {w : World} {v : Vl} {us : List Value} (h : TnS Q w0 B2 p q its fls nI nf cs ds k m w) (hQ : Q p) (hp1 : w0.heap.size + 1 < p) (hp2 : p ≠ B2) (hpq : p ≠ q) (hk : k < nI) (hv : its.list[k]? = some v) (hu : AvC Q w (turnV v) us) : TnS Q w0 B2 p q its fls nI nf cs ds (k + 1) m (w.setCells p (k * 8) us) := by
  have u8 := hu.cells
  have out : ∀ b j, b ≠ p → (w.setCells p (k * 8) us).cell? ⟨b, j, none⟩ = w.cell? ⟨b, j, none⟩ := fun b j hb => World.cell?_setCells_out _ _ _ _ _ (fun e _ => absurd (show b = p from e) hb)
  have av : ∀ x xs, AvC Q w x xs → AvC Q (w.setCells p (k * 8) us) x xs := fun x xs h => AvC.agree (fun _ _ h => h) (fun b j _ hn => out b j (fun e => hn (e ▸ hQ))) x xs h
  have oth : ∀ i xs, i ≠ k → xs.length = 8 → Row8 w p (i * 8) xs → Row8 (w.setCells p (k * 8) us) p (i * 8) xs := fun i xs hi h8 hr j u hj => by
    have := (List.getElem?_eq_some_iff.1 hj).1
    rw [World.cell?_setCells_out _ _ _ _ _ (fun _ _ => by show i * 8 + j < k * 8 ∨ k * 8 + us.length ≤ i * 8 + j; omega)]
    exact hr j u hj
  exact {
    c0 := fun j u hu => (out _ _ (by omega)).trans (h.c0 j u hu)
    c2 := fun j u hu => (out _ _ (by omega)).trans (h.c2 j u hu)
    th := World.there_setCells h.th _ _ _
    thI := World.there_setCells h.thI _ _ _
    thF := World.there_setCells h.thF _ _ _
    dI := fun i x hi hx => by
      by_cases hik : i = k
      · subst hik
        obtain rfl : v = x := Option.some.inj (hv.symm.trans hx)
        exact ⟨us, World.rangeAt_setCells_same w _ _ us (by rw [u8]; exact there_sub h.thI (Nat.zero_le _) (by omega)), av _ _ hu⟩
      · obtain ⟨xs, r1, r2⟩ := h.dI i x (by omega) hx
        exact ⟨xs, oth i xs hik r2.cells r1, av _ _ r2⟩
    rI := fun i x hi hx => by
      obtain ⟨xs, r1, r2⟩ := h.rI i x (by omega) hx
      exact ⟨xs, oth i xs (by omega) r2.cells r1, av _ _ r2⟩
    dF := fun i x hi hx => by
      obtain ⟨xs, r0, rz, r1, r2⟩ := h.dF i x hi hx
      exact ⟨xs, (out _ _ (fun e => hpq e.symm)).trans r0, rz, fun j u hj => (out _ _ (fun e => hpq e.symm)).trans (r1 j u hj), av _ _ r2⟩
    bel := below_setCells _ _ _ _ h.bel (by omega)
    siz := by rw [size_setCells]; exact h.siz }
/-- the next member is written -/
theorem TnS.putF {Q : Nat → Prop} {w0 : World} {B2 p q : Nat} {its : Vls} {fls : Fls} {nI nf : Nat} {cs ds : List Value} {k m : Nat} {w : World} {nm : ByteArray} {v : Vl} {us : List Value} (h : TnS Q w0 B2 p q its fls nI nf cs ds k m w) (hQ : Q q) (hp1 : w0.heap.size + 1 < q) (hp2 : q ≠ B2) (hpq : p ≠ q) (hk : m < nf) (hv : (rvF fls)[m]? = some (nm, v)) (hz : nm.size ≤ maxLen) (hu : AvC Q w v us) : TnS Q w0 B2 p q its fls nI nf cs ds k (m + 1) (w.setCells q (m * 9) (.string nm :: us)) := by
  have u8 := hu.cells
  have out : ∀ b j, b ≠ q → (w.setCells q (m * 9) (.string nm :: us)).cell? ⟨b, j, none⟩ = w.cell? ⟨b, j, none⟩ := fun b j hb => World.cell?_setCells_out _ _ _ _ _ (fun e _ => absurd (show b = q from e) hb)
  have av : ∀ x xs, AvC Q w x xs → AvC Q (w.setCells q (m * 9) (.string nm :: us)) x xs := fun x xs h => AvC.agree (fun _ _ h => h) (fun b j _ hn => out b j (fun e => hn (e ▸ hQ))) x xs h
  have hrow : (w.setCells q (m * 9) (.string nm :: us)).rangeAt q (m * 9) (.string nm :: us) := World.rangeAt_setCells_same w _ _ _ (by rw [List.length_cons, u8]; exact there_sub h.thF (Nat.zero_le _) (by omega))
  exact {
    c0 := fun j u hu => (out _ _ (by omega)).trans (h.c0 j u hu)
    c2 := fun j u hu => (out _ _ (by omega)).trans (h.c2 j u hu)
    th := World.there_setCells h.th _ _ _
    thI := World.there_setCells h.thI _ _ _
    thF := World.there_setCells h.thF _ _ _
    dI := fun i x hi hx => by
      obtain ⟨xs, r1, r2⟩ := h.dI i x hi hx
      exact ⟨xs, fun j u hj => (out _ _ hpq).trans (r1 j u hj), av _ _ r2⟩
    rI := fun i x hi hx => by
      obtain ⟨xs, r1, r2⟩ := h.rI i x hi hx
      exact ⟨xs, fun j u hj => (out _ _ hpq).trans (r1 j u hj), av _ _ r2⟩
    dF := fun i x hi hx => by
      by_cases hik : i = m
      · subst hik
        obtain rfl : (nm, v) = x := Option.some.inj (hv.symm.trans hx)
        exact ⟨us, hrow 0 _ rfl, hz, fun j u hj => by have := hrow (j + 1) u (by simpa using hj); rwa [show i * 9 + (j + 1) = i * 9 + 1 + j by omega] at this, av _ _ hu⟩
      · obtain ⟨xs, r0, rz, r1, r2⟩ := h.dF i x (by omega) hx
        have x8 := r2.cells
        refine ⟨xs, ?_, rz, fun j u hj => ?_, av _ _ r2⟩
        · rw [World.cell?_setCells_out _ _ _ _ _ (fun _ _ => by show i * 9 < m * 9 ∨ m * 9 + (Value.string nm :: us).length ≤ i * 9; rw [List.length_cons]; omega)]
          exact r0
        · have := (List.getElem?_eq_some_iff.1 hj).1
          rw [World.cell?_setCells_out _ _ _ _ _ (fun _ _ => by show i * 9 + 1 + j < m * 9 ∨ m * 9 + (Value.string nm :: us).length ≤ i * 9 + 1 + j; rw [List.length_cons]; omega)]
          exact r1 j u hj
    bel := below_setCells _ _ _ _ h.bel (by omega)
    siz := by rw [size_setCells]; exact h.siz }
end Go.Proofs.Ythpcpminikmcbaa.og
namespace Go.Proofs.Ythpcpminikmcbaa.og
open Go.ChangeShapes Go.WideShapes Go.ChangeAt Go.RowKit
open vl hiding cB cFl cS cF cI cK cIt
set_option linter.unusedVariables false
set_option linter.unusedSimpArgs false
set_option maxHeartbeats 8000000 in
set_option maxRecDepth 6000 in
theorem turned_ok : ∀ v : Vl, Small v → FnB 28 (fun v v' => v' = turnV v) v := by
  refine Vl.all ?_
  intro kd bb ni f tx ty its fls ihI ihF hsm Q cs w hQ hv
  have hcop := rcopy_ok _ hsm cs
  have hvr := AvC.read _ cs hv
  unfold Small at hsm
  obtain ⟨hl1, hl2, -, hsI, hsF⟩ := hsm
  unfold AvC at hv
  obtain ⟨ai, nI, ci, af, nf, cf, rfl, hI, hF, hni, hnf, hai, haf, hk1, hk2, hk3, hk4, hci, hcf⟩ := hv
  have eI := VlsAt.len its _ _ (AvI.read its _ _ hI)
  have eF := FlsAt.len fls _ _ (AvF.read fls _ _ hF)
  obtain ⟨W, eW⟩ : ∃ W, W = ((w.alloc (.cells #[.int .i64 kd, .bool bb, .int .i64 ni, .float .f64 f, .string tx, .string ty, .slice ai nI ci, .slice af nf cf] 27)).alloc (.cells #[.int .i64 0, .bool false, .int .i64 0, .float .f64 0, .string { data := #[] }, .string { data := #[] }, .slice none 0 0, .slice none 0 0] 27)) := ⟨_, rfl⟩
  have bW : Below w.heap.size w W := by rw [eW]; exact ((Below.refl _ _).alloc (Nat.le_refl _) _).alloc (by simp) _
  have hsz : w.heap.size + 1 < W.heap.size := by rw [eW]; simp
  have r0 : W.rangeAt w.heap.size 0 [.int .i64 kd, .bool bb, .int .i64 ni, .float .f64 f, .string tx, .string ty, .slice ai nI ci, .slice af nf cf] := fun j x hx => by
    rw [eW, Nat.zero_add, World.cell?_alloc_past _ _ _ (by simp), World.cell?_alloc_at _ _ _ _ rfl]; simpa using hx
  have hth : W.there (w.heap.size + 1) 0 8 := by
    rw [eW]
    have h := there_new (w := w.alloc (.cells #[.int .i64 kd, .bool bb, .int .i64 ni, .float .f64 f, .string tx, .string ty, .slice ai nI ci, .slice af nf cf] 27)) (Z := #[.int .i64 0, .bool false, .int .i64 0, .float .f64 0, .string { data := #[] }, .string { data := #[] }, .slice none 0 0, .slice none 0 0]) (t := 27) (n := 8) rfl
    simpa using h
  have EW := hide eW
  have HCOP := hide (hcop W (VlC.below bW _ _ hvr))
  have EI := hide eI
  have EF := hide eF
  have ii : (Try.prog.info? 27).map (·.size) = some [Value.int IntKind.i64 kd, Value.bool bb, Value.int IntKind.i64 ni, Value.float FloatKind.f64 f, Value.string tx, Value.string ty, Value.slice ai nI ci, Value.slice af nf cf].length := infoV
  have RI := hide (And.intro r0 ii)
  clear eW hcop eI eF r0 ii hvr
  go_enter Try.func28, Try.ntmps28
  go_wp2_with (first
    | (rw [← unhide EW]; refine wpList_load_mid (by rfl) 27 _ (by rfl) w.heap.size 0 (by rfl) [.int .i64 kd, .bool bb, .int .i64 ni, .float .f64 f, .string tx, .string ty, .slice ai nI ci, .slice af nf cf] _ (unhide RI).1 Try.underlying27 (by rfl) (unhide RI).2 ?_))
  clear EW
  refine (unhide HCOP).mono ?_
  clear HCOP
  rintro e w1 ⟨ds, F, rfl, hO, hnd, hF1, b1, z1⟩
  have hOr := OwC.read _ _ _ hO
  unfold OwC at hO
  obtain ⟨bi, mI, di, bf, mf, df, Fi, Ff, rfl, o1, o2, s1, s2, s3, s4, s5, s6, s7, s8, s9, s10, rfl⟩ := hO
  unfold VlC at hOr
  obtain ⟨bi', mI', di', bf', mf', df', e, hOI, hOF, -⟩ := hOr
  simp only [List.cons.injEq, Value.slice.injEq, true_and, and_true] at e
  obtain ⟨⟨rfl, rfl, rfl⟩, rfl, rfl, rfl⟩ := e
  obtain rfl : nI = mI := (unhide EI).symm.trans (VlsAt.len its _ _ hOI)
  obtain rfl : nf = mf := (unhide EF).symm.trans (FlsAt.len fls _ _ hOF)
  clear hOI hOF
  have hw1 := b1.size
  obtain ⟨X, eX⟩ : ∃ X, X = w1.alloc (.cells #[.int .i64 kd, .bool bb, .int .i64 ni, .float .f64 f, .string tx, .string ty, .slice bi nI di, .slice bf nf df] 27) := ⟨_, rfl⟩
  have bX : Below w1.heap.size w1 X := by rw [eX]; exact (Below.refl _ _).alloc (Nat.le_refl _) _
  have sX : X.heap.size = w1.heap.size + 1 := by rw [eX]; simp
  have hX2 : X.rangeAt w1.heap.size 0 [.int .i64 kd, .bool bb, .int .i64 ni, .float .f64 f, .string tx, .string ty, .slice bi nI di, .slice bf nf df] := fun j x hx => by
    rw [eX, Nat.zero_add, World.cell?_alloc_at _ _ _ _ rfl]; simpa using hx
  have hX0 : X.rangeAt w.heap.size 0 [.int .i64 kd, .bool bb, .int .i64 ni, .float .f64 f, .string tx, .string ty, .slice ai nI ci, .slice af nf cf] := Row8.below (Row8.below (unhide RI).1 b1) bX
  have hXt : X.there (w.heap.size + 1) 0 8 := there_below (there_below hth b1 (by omega)) bX (by omega)
  -- the two rows
  obtain ⟨p, q, hp, hq, ⟨hpq, hpw, hqw⟩, hp1, hq1, hpB, hqB, hav⟩ : ∃ p q : Nat, (nI = 0 ∧ bi = none ∨ bi = some ⟨p, 0, none⟩) ∧ (nf = 0 ∧ bf = none ∨ bf = some ⟨q, 0, none⟩) ∧ (p ≠ q ∧ w.heap.size ≤ p ∧ w.heap.size ≤ q) ∧ (nI = 0 ∨ w.heap.size + 1 < p) ∧ (nf = 0 ∨ w.heap.size + 1 < q) ∧ p < w1.heap.size ∧ q < w1.heap.size ∧
      X.there p 0 (nI * 8) ∧ X.there q 0 (nf * 9) ∧ ∀ (i : Nat) (v : Vl), its.list[i]? = some v → ∃ us, Row8 X p (i * 8) us ∧ AvC (fun b => Q b ∨ b = w.heap.size ∨ b = w.heap.size + 1 ∨ b = w1.heap.size ∨ b = p ∨ b = q) X v us := by
    have hq0 : ∀ b, Q b → b < w.heap.size := hQ
    rcases o1 with ⟨rfl, rfl, rfl, rfl⟩ | ⟨p, G, rfl, rfl, o1⟩
    · rcases o2 with ⟨rfl, rfl, rfl, rfl⟩ | ⟨q, G', rfl, rfl, o2⟩
      · exact ⟨w.heap.size + 1, w.heap.size, .inl ⟨rfl, rfl⟩, .inl ⟨rfl, rfl⟩, ⟨by omega, by omega, by omega⟩, .inl rfl, .inl rfl, by omega, by omega, fun j hj => by omega, fun j hj => by omega, fun i v hv => by simp [Vls.list] at hv⟩
      · have hqq := hF1 q (by simp)
        exact ⟨w.heap.size + 1, q, .inl ⟨rfl, rfl⟩, .inr rfl, ⟨by omega, by omega, by omega⟩, .inl rfl, .inr (by omega), by omega, by omega, fun j hj => by omega, there_below (OwfIn.there (fun j => z1 q (by simp) j) fls 0 nf G' o2) bX hqq.2, fun i v hv => by simp [Vls.list] at hv⟩
    · have hpp := hF1 p (by simp)
      have hn3 := (List.nodup_append.1 hnd).2.2
      have hGp : ∀ b ∈ G, b ≠ p := fun b hb e => (List.nodup_cons.1 (List.nodup_append.1 hnd).1).1 (e ▸ hb)
      have hGr : ∀ b ∈ G, W.heap.size ≤ b ∧ b < w1.heap.size := fun b hb => hF1 b (by simp [hb])
      rcases o2 with ⟨rfl, rfl, rfl, rfl⟩ | ⟨q, G', rfl, rfl, o2⟩
      · refine ⟨p, w.heap.size, .inr rfl, .inl ⟨rfl, rfl⟩, ⟨by omega, by omega, by omega⟩, .inr (by omega), .inl rfl, by omega, by omega, there_below (OwsIn.there (fun j => z1 p (by simp) j) its 0 nI G o1) bX hpp.2, fun j hj => by omega, fun i v hv => ?_⟩
        obtain ⟨us, g1, g2⟩ := OwsIn.row (Q := fun b => Q b ∨ b = w.heap.size ∨ b = w.heap.size + 1 ∨ b = w1.heap.size ∨ b = p ∨ b = w.heap.size) its 0 nI G (fun b hb hn => by
          have h1 := hGr b hb
          have h2 := hGp b hb
          rcases hn with h | h | h | h | h | h
          · have := hq0 b h; omega
          all_goals omega) o1 i v hv
        exact ⟨us, by rw [Nat.zero_add] at g1; exact Row8.below g1 bX, g2.below bX⟩
      · have hqq := hF1 q (by simp)
        have hne : p ≠ q := hn3 p (List.mem_cons_self ..) q (List.mem_cons_self ..)
        have hGq : ∀ b ∈ G, b ≠ q := fun b hb => hn3 b (List.mem_cons_of_mem _ hb) q (List.mem_cons_self ..)
        refine ⟨p, q, .inr rfl, .inr rfl, ⟨hne, by omega, by omega⟩, .inr (by omega), .inr (by omega), by omega, by omega, there_below (OwsIn.there (fun j => z1 p (by simp) j) its 0 nI G o1) bX hpp.2, there_below (OwfIn.there (fun j => z1 q (by simp) j) fls 0 nf G' o2) bX hqq.2, fun i v hv => ?_⟩
        obtain ⟨us, g1, g2⟩ := OwsIn.row (Q := fun b => Q b ∨ b = w.heap.size ∨ b = w.heap.size + 1 ∨ b = w1.heap.size ∨ b = p ∨ b = q) its 0 nI G (fun b hb hn => by
          have h1 := hGr b hb
          have h2 := hGp b hb
          have h3 := hGq b hb
          rcases hn with h | h | h | h | h | h
          · have := hq0 b h; omega
          all_goals omega) o1 i v hv
        exact ⟨us, by rw [Nat.zero_add] at g1; exact Row8.below g1 bX, g2.below bX⟩
  obtain ⟨htI, htF, hav⟩ := hav
  have T0 : TnS (fun b => Q b ∨ b = w.heap.size ∨ b = w.heap.size + 1 ∨ b = w1.heap.size ∨ b = p ∨ b = q) w w1.heap.size p q its fls nI nf [.int .i64 kd, .bool bb, .int .i64 ni, .float .f64 f, .string tx, .string ty, .slice ai nI ci, .slice af nf cf] [.int .i64 kd, .bool bb, .int .i64 ni, .float .f64 f, .string tx, .string ty, .slice bi nI di, .slice bf nf df] 0 0 X := {
    c0 := hX0
    c2 := hX2
    th := hXt
    thI := htI
    thF := htF
    dI := fun i v hi => absurd hi (Nat.not_lt_zero _)
    rI := fun i v _ hv => hav i v hv
    dF := fun i v hi => absurd hi (Nat.not_lt_zero _)
    bel := (bW.trans (b1.mono bW.size)).trans (bX.mono (by have := bW.size; omega))
    siz := by omega }
  have hpL : nI = 0 ∨ p < w1.heap.size := .inr hpB
  have hqL : nf = 0 ∨ q < w1.heap.size := .inr hqB
  have hB2 : w.heap.size + 1 < w1.heap.size := by omega
  have HT0 := hide T0
  have EX := hide eX
  have x6 : X.cell? ⟨w1.heap.size, 6, none⟩ = some (.slice bi nI di) := hX2 6 _ rfl
  have X6 := hide x6
  have hsf := storeF
  have bnI : nI ≤ 9223372036854775807 := by have := unhide EI; omega
  have bnf : nf ≤ 9223372036854775807 := by have := unhide EF; omega
  clear T0 eX hX0 hX2 hXt htI htF hav o1 o2 hnd hF1 z1 x6
  go_wp2_with fail
  rw [← unhide EX]
  clear EX hsf X6
  have hQ1 : ∀ (wr : World), Below w.heap.size w wr → w1.heap.size < wr.heap.size → ∀ b, (Q b ∨ b = w.heap.size ∨ b = w.heap.size + 1 ∨ b = w1.heap.size ∨ b = p ∨ b = q) → b < wr.heap.size := fun wr hb hl b h => by
    have := hb.size
    rcases h with h | h | h | h | h | h
    · have := hQ b h; omega
    all_goals omega
  go_loopw [12] (fun vi wr => ∃ k : Nat, k ≤ nI ∧ vi = .int .i64 k ∧ vl.Hid (TnS (fun b => Q b ∨ b = w.heap.size ∨ b = w.heap.size + 1 ∨ b = w1.heap.size ∨ b = p ∨ b = q) w w1.heap.size p q its fls nI nf [.int .i64 kd, .bool bb, .int .i64 ni, .float .f64 f, .string tx, .string ty, .slice ai nI ci, .slice af nf cf] [.int .i64 kd, .bool bb, .int .i64 ni, .float .f64 f, .string tx, .string ty, .slice bi nI di, .slice bf nf df] k 0 wr)) (fun vi _ => nI - (intOf vi).toNat)
  case atStart => exact ⟨0, Nat.zero_le _, rfl, HT0⟩
  case round =>
    clear HT0
    obtain ⟨k, hk, rfl, HT⟩ := hrel
    have hT := unhide HT
    by_cases hlt : k < nI
    · have ki : (k : Int) < (nI : Int) := by omega
      obtain rfl : bi = some ⟨p, 0, none⟩ := by
        rcases hp with ⟨h, -⟩ | h
        · omega
        · exact h
      have hke : k < its.list.length := by rw [unhide EI]; exact hlt
      have hgv : its.list[k]? = some its.list[k] := List.getElem?_eq_getElem hke
      obtain ⟨us, hrow, hus⟩ := hT.rI k _ (Nat.le_refl _) hgv
      have IH := hide (ihI its.list[k] (List.mem_of_getElem? hgv) (hsI.all _ (List.mem_of_getElem? hgv)))
      have HGV := hide hgv
      generalize its.list[k] = v at *
      have iu : (Try.prog.info? 27).map (·.size) = some us.length := by rw [hus.cells]; exact infoV
      have y6 : wr.cell? ⟨w1.heap.size, 6, none⟩ = some (.slice (some ⟨p, 0, none⟩) nI di) := hT.c2 6 _ rfl
      have HU := hide (And.intro hrow (And.intro hus iu))
      clear hgv hrow hus iu hT
      go_wp2_with fail
      have hS0 : ({ wr with drawn := wr.drawn + 1 } : World).cell? ⟨w1.heap.size, 6, none⟩ = some (.slice (some ⟨p, 0, none⟩) nI di) := y6
      clear y6
      refine wp_region_noPanic ?_
      refine wp_region_held (S := fun w' => w'.cell? ⟨w1.heap.size, 6, none⟩ = some (.slice (some ⟨p, 0, none⟩) nI di)) mixed ?_
      refine wpAnyH_take (i := 0) (v := ?v1) rfl (by kernel_rfl) (by kernel_rfl) (by kernel_rfl) (fun _ _ _ h => h) (Or.inl ⟨by rfl, ?hy1⟩) hS0 ?_
      case hy1 => (intro w' hw';  go_simp; try with_reducible rfl)
      simp only [List.getElem_toArray, List.getElem_cons_zero, List.getElem_cons_succ, Act.put, List.setIfInBounds_toArray, List.set_cons_zero, List.set_cons_succ]
      refine wpAnyH_take (i := 1) (v := ?v2) rfl (by kernel_rfl) (by kernel_rfl) (by kernel_rfl) (fun _ _ _ h => h) (Or.inl ⟨by rfl, ?hy2⟩) hS0 ?_
      case hy2 => (intro w' hw';  go_simp; try with_reducible rfl)
      simp only [List.getElem_toArray, List.getElem_cons_zero, List.getElem_cons_succ, Act.put, List.setIfInBounds_toArray, List.set_cons_zero, List.set_cons_succ]
      refine wpAnyH_take (i := 2) (v := ?v3) rfl (by kernel_rfl) (by kernel_rfl) (by kernel_rfl) (fun _ _ _ h => h) (Or.inl ⟨by rfl, ?hy3⟩) hS0 ?_
      case hy3 => (intro w' hw';  go_simp; try with_reducible rfl)
      simp only [List.getElem_toArray, List.getElem_cons_zero, List.getElem_cons_succ, Act.put, List.setIfInBounds_toArray, List.set_cons_zero, List.set_cons_succ]
      refine wpAnyH_take (i := 3) (v := ?v4) rfl (by kernel_rfl) (by kernel_rfl) (by kernel_rfl) (fun _ _ _ h => h) (Or.inl ⟨by rfl, ?hy4⟩) hS0 ?_
      case hy4 => (intro w' hw';  go_simp; try with_reducible rfl)
      simp only [List.getElem_toArray, List.getElem_cons_zero, List.getElem_cons_succ, Act.put, List.setIfInBounds_toArray, List.set_cons_zero, List.set_cons_succ]
      refine wpAnyH_take (i := 4) (v := ?v5) rfl (by kernel_rfl) (by kernel_rfl) (by kernel_rfl) (fun _ _ _ h => h) (Or.inl ⟨by rfl, ?hy5⟩) hS0 ?_
      case hy5 => (intro w' hw';  go_simp; try with_reducible rfl)
      simp only [List.getElem_toArray, List.getElem_cons_zero, List.getElem_cons_succ, Act.put, List.setIfInBounds_toArray, List.set_cons_zero, List.set_cons_succ]
      refine wpAnyH_take (i := 5) (v := ?v6) rfl (by kernel_rfl) (by kernel_rfl) (by kernel_rfl) (fun _ _ _ h => h) (Or.inl ⟨by rfl, ?hy6⟩) hS0 ?_
      case hy6 => (intro w' hw';  go_simp; try with_reducible rfl)
      simp only [List.getElem_toArray, List.getElem_cons_zero, List.getElem_cons_succ, Act.put, List.setIfInBounds_toArray, List.set_cons_zero, List.set_cons_succ]
      refine wpAnyH_take (i := 6) (v := ?v7) rfl (by kernel_rfl) (by kernel_rfl) (by kernel_rfl) (fun _ _ _ h => h) (Or.inl ⟨by rfl, ?hy7⟩) hS0 ?_
      case hy7 => (intro w' hw';  go_simp; try with_reducible rfl)
      simp only [List.getElem_toArray, List.getElem_cons_zero, List.getElem_cons_succ, Act.put, List.setIfInBounds_toArray, List.set_cons_zero, List.set_cons_succ]
      refine rgn.one (i := 7) _ rfl (by kernel_rfl) (by rfl) ?_
      simp only [List.getElem_toArray, List.getElem_cons_zero, List.getElem_cons_succ, Act.put, List.setIfInBounds_toArray, List.set_cons_zero, List.set_cons_succ]
      refine wp_load_mid 27 _ (by rfl) p (k * 8) (by rfl) us _ (show ({ wr with drawn := wr.drawn + 1 } : World).rangeAt p (k * 8) us from (unhide HU).1) Try.underlying27 (by rfl) (unhide HU).2.2 ?_
      refine ⟨hS0, ?_⟩
      simp only [List.getElem_toArray, List.getElem_cons_zero, List.getElem_cons_succ, Act.put, List.setIfInBounds_toArray, List.set_cons_zero, List.set_cons_succ]
      refine rgn.one (i := 8) _ rfl (by kernel_rfl) (by rfl) ?_
      simp only [List.getElem_toArray, List.getElem_cons_zero, List.getElem_cons_succ, Act.put, List.setIfInBounds_toArray, List.set_cons_zero, List.set_cons_succ]
      go_wp2_with fail
      have dr : Below wr.heap.size wr { wr with drawn := wr.drawn + 1 } := (Below.refl _ _).drew
      refine ((unhide IH) _ us _ (fun b hb => by have := hQ1 wr (unhide HT).bel (unhide HT).siz b hb; exact this) (AvC.below (unhide HU).2.1 dr)).mono ?_
      rintro e w3 ⟨v', es, rfl, rfl, hO3, b3⟩
      have b4 : Below wr.heap.size wr w3 := dr.trans b3
      have hT3 := (unhide HT).below hB2 hpL hqL b4
      have hS0 : w3.cell? ⟨w1.heap.size, 6, none⟩ = some (.slice (some ⟨p, 0, none⟩) nI di) := hT3.c2 6 _ rfl
      have e8 := hO3.cells
      have e1 := (AvC.read _ _ hO3).one
      have ht3 : w3.there p (k * 8) es.toArray.size := there_sub hT3.thI (Nat.zero_le _) (by simp [e8]; omega)
      have ie : (Try.prog.info? 27).map (·.size) = some es.toArray.size := by simp [e8, infoV]
      have hTn := hide (hT3.putI (.inr (.inr (.inr (.inr (.inl rfl))))) (by omega) (by omega) hpq hlt (unhide HGV) hO3)
      refine ⟨hS0, ?_⟩
      refine wpAnyH_take (i := 9) (v := ?v8) rfl (by kernel_rfl) (by kernel_rfl) (by kernel_rfl) (fun _ _ _ h => h) (Or.inl ⟨by rfl, ?hy8⟩) hS0 ?_
      case hy8 => (intro w' hw';  go_simp; try with_reducible rfl)
      simp only [List.getElem_toArray, List.getElem_cons_zero, List.getElem_cons_succ, Act.put, List.setIfInBounds_toArray, List.set_cons_zero, List.set_cons_succ]
      refine rgn.one (i := 10) _ rfl (by kernel_rfl) (by rfl) ?_
      simp only [List.getElem_toArray, List.getElem_cons_zero, List.getElem_cons_succ, Act.put, List.setIfInBounds_toArray, List.set_cons_zero, List.set_cons_succ]
      refine wp_store_mid 27 _ _ (by rfl) p (k * 8) es.toArray (by rfl) (by rfl) ht3 ie e1 ?_
      refine ⟨(unhide hTn).c2 6 _ rfl, ?_⟩
      refine wpAnyH_done (by kernel_rfl) ?_ _
      refine NoPanic.normal ?_
      try simp only [List.getElem_toArray, List.getElem_cons_zero, List.getElem_cons_succ, Act.put, List.setIfInBounds_toArray, List.set_cons_zero, List.set_cons_succ]
      obtain ⟨w5, e5⟩ : ∃ w5, w5 = w3.setCells p (k * 8) es := ⟨_, rfl⟩
      rw [← e5] at hTn
      rw [show w3.setCells p (k * 8) es.toArray.toList = w5 from e5.symm]
      clear e5 ht3 ie e1 e8 hS0 hT3 HU IH
      go_wp2
      go_roundw
      case rel => exact ⟨k + 1, by omega, by go_num, hTn⟩
      case measure => simp [intOf]; omega
    · obtain rfl : k = nI := by omega
      have y7 : wr.cell? ⟨w1.heap.size, 7, none⟩ = some (.slice bf nf df) := hT.c2 7 _ rfl
      clear hT
      go_wp2_with fail
      go_loopw [6] (fun vi wr => ∃ m : Nat, m ≤ nf ∧ vi = .int .i64 m ∧ vl.Hid (TnS (fun b => Q b ∨ b = w.heap.size ∨ b = w.heap.size + 1 ∨ b = w1.heap.size ∨ b = p ∨ b = q) w w1.heap.size p q its fls k nf [.int .i64 kd, .bool bb, .int .i64 ni, .float .f64 f, .string tx, .string ty, .slice ai k ci, .slice af nf cf] [.int .i64 kd, .bool bb, .int .i64 ni, .float .f64 f, .string tx, .string ty, .slice bi k di, .slice bf nf df] k m wr)) (fun vi _ => nf - (intOf vi).toNat)
      case atStart => exact ⟨0, Nat.zero_le _, rfl, HT⟩
      case round =>
        clear HT y7
        obtain ⟨m, hm, rfl, HT⟩ := hrel
        have hT := unhide HT
        by_cases hlt2 : m < nf
        · have mi : (m : Int) < (nf : Int) := by omega
          obtain rfl : bf = some ⟨q, 0, none⟩ := by
            rcases hq with ⟨h, -⟩ | h
            · omega
            · exact h
          obtain ⟨j, hj⟩ : ∃ j, nf = m + 1 + j := ⟨nf - m - 1, by omega⟩
          obtain ⟨b, off, nm, v, us, rfl, hgv, -, hn0, hnz, hrow, hus⟩ := AvF.get fls _ _ hF j (by omega)
          have IH := hide (ihF (nm, v) (List.mem_of_getElem? hgv) (hsF.all _ (List.mem_of_getElem? hgv)))
          have HGV := hide (rvF_get (k := m) hgv (by rw [unhide EF]; omega))
          have iu : (Try.prog.info? 27).map (·.size) = some us.length := by rw [hus.cells]; exact infoV
          have y7 : wr.cell? ⟨w1.heap.size, 7, none⟩ = some (.slice (some ⟨q, 0, none⟩) nf df) := hT.c2 7 _ rfl
          have z7 : wr.cell? ⟨w.heap.size, 7, none⟩ = some (.slice (some ⟨b, off, none⟩) nf cf) := hT.c0 7 _ rfl
          have hbl := World.block_lt_of_cell? w _ hn0
          have HU := hide (And.intro hrow (And.intro hus iu))
          have hbel := hT.bel
          obtain ⟨a0, ha0⟩ : ∃ a0 : Nat, a0 = m + j := ⟨_, rfl⟩
          have we1 : IntKind.i64.wrap ((nf : Int) - 1) = (a0 : Int) := by
            rw [show (nf : Int) - 1 = (a0 : Int) by omega]; simp [IntKind.wrap, IntKind.bits, IntKind.signed]; omega
          have we2 : IntKind.i64.wrap ((a0 : Int) - (m : Int)) = (j : Int) := by
            rw [show (a0 : Int) - (m : Int) = (j : Int) by omega]; simp [IntKind.wrap, IntKind.bits, IntKind.signed]; omega
          have j0 : (0 : Int) ≤ (j : Int) := by omega
          clear ha0
          have lj : (j : Int) < (nf : Int) := by omega
          have HJ := hide hj
          clear hj hgv hrow hus iu hT
          go_wp2_with fail
          have hS0 : Below w.heap.size w { wr with drawn := wr.drawn + 1 } ∧ ({ wr with drawn := wr.drawn + 1 } : World).cell? ⟨w1.heap.size, 7, none⟩ = some (.slice (some ⟨q, 0, none⟩) nf df) ∧ ({ wr with drawn := wr.drawn + 1 } : World).cell? ⟨w.heap.size, 7, none⟩ = some (.slice (some ⟨b, off, none⟩) nf cf) := ⟨hbel.drew, y7, z7⟩
          clear y7 z7 hbel
          refine wp_region_noPanic ?_
          refine wp_region_held (S := fun w' => Below w.heap.size w w' ∧ w'.cell? ⟨w1.heap.size, 7, none⟩ = some (.slice (some ⟨q, 0, none⟩) nf df) ∧ w'.cell? ⟨w.heap.size, 7, none⟩ = some (.slice (some ⟨b, off, none⟩) nf cf)) mixed ?_
          refine wpAnyH_take (i := 0) (v := ?v9) rfl (by kernel_rfl) (by kernel_rfl) (by kernel_rfl) (fun _ _ _ h => h) (Or.inl ⟨by rfl, ?hy9⟩) hS0 ?_
          case hy9 => (intro w' hw'; obtain ⟨hb', c7, d7⟩ := hw'; clear hb'; go_simp; try with_reducible rfl)
          simp only [List.getElem_toArray, List.getElem_cons_zero, List.getElem_cons_succ, Act.put, List.setIfInBounds_toArray, List.set_cons_zero, List.set_cons_succ]
          refine wpAnyH_take (i := 1) (v := ?v10) rfl (by kernel_rfl) (by kernel_rfl) (by kernel_rfl) (fun _ _ _ h => h) (Or.inl ⟨by rfl, ?hy10⟩) hS0 ?_
          case hy10 => (intro w' hw'; obtain ⟨hb', c7, d7⟩ := hw'; clear hb'; go_simp; try with_reducible rfl)
          simp only [List.getElem_toArray, List.getElem_cons_zero, List.getElem_cons_succ, Act.put, List.setIfInBounds_toArray, List.set_cons_zero, List.set_cons_succ]
          refine wpAnyH_take (i := 2) (v := ?v11) rfl (by kernel_rfl) (by kernel_rfl) (by kernel_rfl) (fun _ _ _ h => h) (Or.inl ⟨by rfl, ?hy11⟩) hS0 ?_
          case hy11 => (intro w' hw'; obtain ⟨hb', c7, d7⟩ := hw'; clear hb'; go_simp; try with_reducible rfl)
          simp only [List.getElem_toArray, List.getElem_cons_zero, List.getElem_cons_succ, Act.put, List.setIfInBounds_toArray, List.set_cons_zero, List.set_cons_succ]
          refine wpAnyH_take (i := 3) (v := ?v12) rfl (by kernel_rfl) (by kernel_rfl) (by kernel_rfl) (fun _ _ _ h => h) (Or.inl ⟨by rfl, ?hy12⟩) hS0 ?_
          case hy12 => (intro w' hw'; obtain ⟨hb', c7, d7⟩ := hw'; clear hb'; go_simp; try with_reducible rfl)
          simp only [List.getElem_toArray, List.getElem_cons_zero, List.getElem_cons_succ, Act.put, List.setIfInBounds_toArray, List.set_cons_zero, List.set_cons_succ]
          refine wpAnyH_take (i := 4) (v := ?v13) rfl (by kernel_rfl) (by kernel_rfl) (by kernel_rfl) (fun _ _ _ h => h) (Or.inl ⟨by rfl, ?hy13⟩) hS0 ?_
          case hy13 => (intro w' hw'; obtain ⟨hb', c7, d7⟩ := hw'; clear hb'; go_simp; try with_reducible rfl)
          simp only [List.getElem_toArray, List.getElem_cons_zero, List.getElem_cons_succ, Act.put, List.setIfInBounds_toArray, List.set_cons_zero, List.set_cons_succ]
          refine wpAnyH_take (i := 5) (v := ?v14) rfl (by kernel_rfl) (by kernel_rfl) (by kernel_rfl) (fun _ _ _ h => h) (Or.inl ⟨by rfl, ?hy14⟩) hS0 ?_
          case hy14 => (intro w' hw'; obtain ⟨hb', c7, d7⟩ := hw'; clear hb'; go_simp; try with_reducible rfl)
          simp only [List.getElem_toArray, List.getElem_cons_zero, List.getElem_cons_succ, Act.put, List.setIfInBounds_toArray, List.set_cons_zero, List.set_cons_succ]
          refine wpAnyH_take (i := 6) (v := ?v15) rfl (by kernel_rfl) (by kernel_rfl) (by kernel_rfl) (fun _ _ _ h => h) (Or.inl ⟨by rfl, ?hy15⟩) hS0 ?_
          case hy15 => (intro w' hw'; obtain ⟨hb', c7, d7⟩ := hw'; clear hb'; go_simp; try with_reducible rfl)
          simp only [List.getElem_toArray, List.getElem_cons_zero, List.getElem_cons_succ, Act.put, List.setIfInBounds_toArray, List.set_cons_zero, List.set_cons_succ]
          refine wpAnyH_take (i := 7) (v := ?v16) rfl (by kernel_rfl) (by kernel_rfl) (by kernel_rfl) (fun _ _ _ h => h) (Or.inl ⟨by rfl, ?hy16⟩) hS0 ?_
          case hy16 => (intro w' hw'; obtain ⟨hb', c7, d7⟩ := hw'; clear hb'; go_simp; try with_reducible rfl)
          simp only [List.getElem_toArray, List.getElem_cons_zero, List.getElem_cons_succ, Act.put, List.setIfInBounds_toArray, List.set_cons_zero, List.set_cons_succ]
          refine wpAnyH_take (i := 8) (v := ?v17) rfl (by kernel_rfl) (by kernel_rfl) (by kernel_rfl) (fun _ _ _ h => h) (Or.inl ⟨by rfl, ?hy17⟩) hS0 ?_
          case hy17 => (intro w' hw'; obtain ⟨hb', c7, d7⟩ := hw'; clear hb'; go_simp; try with_reducible rfl)
          simp only [List.getElem_toArray, List.getElem_cons_zero, List.getElem_cons_succ, Act.put, List.setIfInBounds_toArray, List.set_cons_zero, List.set_cons_succ]
          refine wpAnyH_take (i := 9) (v := ?v18) rfl (by kernel_rfl) (by kernel_rfl) (by kernel_rfl) (fun _ _ _ h => h) (Or.inl ⟨by rfl, ?hy18⟩) hS0 ?_
          case hy18 => (intro w' hw'; obtain ⟨hb', c7, d7⟩ := hw'; clear hb'; go_simp; try with_reducible rfl)
          simp only [List.getElem_toArray, List.getElem_cons_zero, List.getElem_cons_succ, Act.put, List.setIfInBounds_toArray, List.set_cons_zero, List.set_cons_succ]
          refine wpAnyH_take (i := 10) (v := ?v19) rfl (by kernel_rfl) (by kernel_rfl) (by kernel_rfl) (fun _ _ _ h => h) (Or.inl ⟨by rfl, ?hy19⟩) hS0 ?_
          case hy19 => (intro w' hw'; obtain ⟨hb', c7, d7⟩ := hw'; have cn := (hb'.cell (p := ⟨b, off + j * 9, none⟩) hbl).trans hn0; clear hb'; go_simp; try with_reducible rfl)
          simp only [List.getElem_toArray, List.getElem_cons_zero, List.getElem_cons_succ, Act.put, List.setIfInBounds_toArray, List.set_cons_zero, List.set_cons_succ]
          refine wpAnyH_take (i := 11) (v := ?v20) rfl (by kernel_rfl) (by kernel_rfl) (by kernel_rfl) (fun _ _ _ h => h) (Or.inl ⟨by rfl, ?hy20⟩) hS0 ?_
          case hy20 => (intro w' hw'; obtain ⟨hb', c7, d7⟩ := hw'; have cn := (hb'.cell (p := ⟨b, off + j * 9, none⟩) hbl).trans hn0; clear hb'; go_simp; try with_reducible rfl)
          simp only [List.getElem_toArray, List.getElem_cons_zero, List.getElem_cons_succ, Act.put, List.setIfInBounds_toArray, List.set_cons_zero, List.set_cons_succ]
          refine wpAnyH_take (i := 12) (v := ?v21) rfl (by kernel_rfl) (by kernel_rfl) (by kernel_rfl) (fun _ _ _ h => h) (Or.inl ⟨by rfl, ?hy21⟩) hS0 ?_
          case hy21 => (intro w' hw'; obtain ⟨hb', c7, d7⟩ := hw'; clear hb'; go_simp; try with_reducible rfl)
          simp only [List.getElem_toArray, List.getElem_cons_zero, List.getElem_cons_succ, Act.put, List.setIfInBounds_toArray, List.set_cons_zero, List.set_cons_succ]
          refine wpAnyH_take (i := 13) (v := ?v22) rfl (by kernel_rfl) (by kernel_rfl) (by kernel_rfl) (fun _ _ _ h => h) (Or.inl ⟨by rfl, ?hy22⟩) hS0 ?_
          case hy22 => (intro w' hw'; obtain ⟨hb', c7, d7⟩ := hw'; clear hb'; go_simp; try with_reducible rfl)
          simp only [List.getElem_toArray, List.getElem_cons_zero, List.getElem_cons_succ, Act.put, List.setIfInBounds_toArray, List.set_cons_zero, List.set_cons_succ]
          refine wpAnyH_take (i := 14) (v := ?v23) rfl (by kernel_rfl) (by kernel_rfl) (by kernel_rfl) (fun _ _ _ h => h) (Or.inl ⟨by rfl, ?hy23⟩) hS0 ?_
          case hy23 => (intro w' hw'; obtain ⟨hb', c7, d7⟩ := hw'; clear hb'; go_simp; try with_reducible rfl)
          simp only [List.getElem_toArray, List.getElem_cons_zero, List.getElem_cons_succ, Act.put, List.setIfInBounds_toArray, List.set_cons_zero, List.set_cons_succ]
          refine wpAnyH_take (i := 15) (v := ?v24) rfl (by kernel_rfl) (by kernel_rfl) (by kernel_rfl) (fun _ _ _ h => h) (Or.inl ⟨by rfl, ?hy24⟩) hS0 ?_
          case hy24 => (intro w' hw'; obtain ⟨hb', c7, d7⟩ := hw'; clear hb'; go_simp; try with_reducible rfl)
          simp only [List.getElem_toArray, List.getElem_cons_zero, List.getElem_cons_succ, Act.put, List.setIfInBounds_toArray, List.set_cons_zero, List.set_cons_succ]
          refine wpAnyH_take (i := 16) (v := ?v25) rfl (by kernel_rfl) (by kernel_rfl) (by kernel_rfl) (fun _ _ _ h => h) (Or.inl ⟨by rfl, ?hy25⟩) hS0 ?_
          case hy25 => (intro w' hw'; obtain ⟨hb', c7, d7⟩ := hw'; clear hb'; go_simp; try with_reducible rfl)
          simp only [List.getElem_toArray, List.getElem_cons_zero, List.getElem_cons_succ, Act.put, List.setIfInBounds_toArray, List.set_cons_zero, List.set_cons_succ]
          refine wpAnyH_take (i := 17) (v := ?v26) rfl (by kernel_rfl) (by kernel_rfl) (by kernel_rfl) (fun _ _ _ h => h) (Or.inl ⟨by rfl, ?hy26⟩) hS0 ?_
          case hy26 => (intro w' hw'; obtain ⟨hb', c7, d7⟩ := hw'; clear hb'; go_simp; try with_reducible rfl)
          simp only [List.getElem_toArray, List.getElem_cons_zero, List.getElem_cons_succ, Act.put, List.setIfInBounds_toArray, List.set_cons_zero, List.set_cons_succ]
          refine wpAnyH_take (i := 18) (v := ?v27) rfl (by kernel_rfl) (by kernel_rfl) (by kernel_rfl) (fun _ _ _ h => h) (Or.inl ⟨by rfl, ?hy27⟩) hS0 ?_
          case hy27 => (intro w' hw'; obtain ⟨hb', c7, d7⟩ := hw'; clear hb'; go_simp; try with_reducible rfl)
          simp only [List.getElem_toArray, List.getElem_cons_zero, List.getElem_cons_succ, Act.put, List.setIfInBounds_toArray, List.set_cons_zero, List.set_cons_succ]
          refine wpAnyH_take (i := 19) (v := ?v28) rfl (by kernel_rfl) (by kernel_rfl) (by kernel_rfl) (fun _ _ _ h => h) (Or.inl ⟨by rfl, ?hy28⟩) hS0 ?_
          case hy28 => (intro w' hw'; obtain ⟨hb', c7, d7⟩ := hw'; clear hb'; go_simp; try with_reducible rfl)
          simp only [List.getElem_toArray, List.getElem_cons_zero, List.getElem_cons_succ, Act.put, List.setIfInBounds_toArray, List.set_cons_zero, List.set_cons_succ]
          refine wpAnyH_take (i := 20) rfl (by kernel_rfl) (by kernel_rfl) (by kernel_rfl) (fun _ _ _ h => h) (yieldsIf_load_mid (by rfl) 27 _ (by rfl) b (off + j * 9 + 1) (by rfl) us _ (fun w' hw' => Row8.below (unhide HU).1 hw'.1) Try.underlying27 (by rfl) (unhide HU).2.2) hS0 ?_
          simp only [List.getElem_toArray, List.getElem_cons_zero, List.getElem_cons_succ, Act.put, List.setIfInBounds_toArray, List.set_cons_zero, List.set_cons_succ]
          refine rgn.one (i := 21) _ rfl (by kernel_rfl) (by rfl) ?_
          simp only [List.getElem_toArray, List.getElem_cons_zero, List.getElem_cons_succ, Act.put, List.setIfInBounds_toArray, List.set_cons_zero, List.set_cons_succ]
          go_wp2_with fail
          have dr : Below wr.heap.size wr { wr with drawn := wr.drawn + 1 } := (Below.refl _ _).drew
          refine ((unhide IH) (fun b => Q b ∨ b = w.heap.size ∨ b = w.heap.size + 1 ∨ b = w1.heap.size ∨ b = p ∨ b = q) us _ (fun b hb => by have := hQ1 wr (unhide HT).bel (unhide HT).siz b hb; exact this) (AvC.agree (fun b hl hn e => by
            rcases e with h | h | h | h | h | h
            · exact hn h
            · omega
            · omega
            · have := bW.size; omega
            · omega
            · omega) (fun b j hl _ => hS0.1.cell (p := ⟨b, j, none⟩) hl) v us (unhide HU).2.1)).mono ?_
          rintro e w3 ⟨v', es, rfl, rfl, hO3, b3⟩
          have b4 : Below wr.heap.size wr w3 := dr.trans b3
          have hT3 := (unhide HT).below hB2 hpL hqL b4
          have hS0 : Below w.heap.size w w3 ∧ w3.cell? ⟨w1.heap.size, 7, none⟩ = some (.slice (some ⟨q, 0, none⟩) nf df) ∧ w3.cell? ⟨w.heap.size, 7, none⟩ = some (.slice (some ⟨b, off, none⟩) nf cf) := ⟨hT3.bel, hT3.c2 7 _ rfl, hT3.c0 7 _ rfl⟩
          have e8 := hO3.cells
          have e1 := one9 nm (AvC.read _ _ hO3)
          have ht3 : w3.there q (m * 9) (Value.string nm :: es).toArray.size := there_sub hT3.thF (Nat.zero_le _) (by simp [e8]; omega)
          have ie : (Try.prog.info? 69).map (·.size) = some (Value.string nm :: es).toArray.size := by simp [e8, infoM]
          have hTn := hide (hT3.putF (.inr (.inr (.inr (.inr (.inr rfl))))) (by omega) (by omega) hpq hlt2 (unhide HGV) hnz hO3)
          refine ⟨hS0, ?_⟩
          refine rgn.take (i := 22) _ (.agg (Value.string nm :: es).toArray) rfl (by kernel_rfl) (by kernel_rfl) (by kernel_rfl) (fun _ _ _ h => h) (by rfl) hS0 (fun w' hw' => by
            have hO4 := hO3
            clear hO3 e8 e1 ht3 ie hTn hS0 hT3 hw' HGV HU IH HT
            generalize turnV v = v' at *
            obtain ⟨kd, bb, ni, f, tx, ty, its, fls⟩ := v'
            unfold AvC at hO4
            obtain ⟨ai, nI, ci, af, nf, cf, rfl, -⟩ := hO4
            go_simp) ?_
          simp only [List.getElem_toArray, List.getElem_cons_zero, List.getElem_cons_succ, Act.put, List.setIfInBounds_toArray, List.set_cons_zero, List.set_cons_succ]
          refine wpAnyH_take (i := 23) (v := ?v29) rfl (by kernel_rfl) (by kernel_rfl) (by kernel_rfl) (fun _ _ _ h => h) (Or.inl ⟨by rfl, ?hy29⟩) hS0 ?_
          case hy29 => (intro w' hw'; obtain ⟨hb', c7, d7⟩ := hw'; clear hb'; go_simp; try with_reducible rfl)
          simp only [List.getElem_toArray, List.getElem_cons_zero, List.getElem_cons_succ, Act.put, List.setIfInBounds_toArray, List.set_cons_zero, List.set_cons_succ]
          refine rgn.one (i := 24) _ rfl (by kernel_rfl) (by rfl) ?_
          simp only [List.getElem_toArray, List.getElem_cons_zero, List.getElem_cons_succ, Act.put, List.setIfInBounds_toArray, List.set_cons_zero, List.set_cons_succ]
          refine wp_store_mid 69 _ _ (by rfl) q (m * 9) (Value.string nm :: es).toArray (by rfl) (by rfl) ht3 ie e1 ?_
          refine ⟨⟨(unhide hTn).bel, (unhide hTn).c2 7 _ rfl, (unhide hTn).c0 7 _ rfl⟩, ?_⟩
          refine wpAnyH_done (by kernel_rfl) ?_ _
          refine NoPanic.normal ?_
          try simp only [List.getElem_toArray, List.getElem_cons_zero, List.getElem_cons_succ, Act.put, List.setIfInBounds_toArray, List.set_cons_zero, List.set_cons_succ]
          obtain ⟨w5, e5⟩ : ∃ w5, w5 = w3.setCells q (m * 9) (Value.string nm :: es) := ⟨_, rfl⟩
          rw [← e5] at hTn
          rw [show w3.setCells q (m * 9) (Value.string nm :: es).toArray.toList = w5 from e5.symm]
          clear e5 ht3 ie e1 e8 hS0 hT3 HU IH we1 we2 j0 lj hn0
          go_wp2
          go_roundw
          case rel => exact ⟨m + 1, by omega, by go_num, hTn⟩
          case measure => simp [intOf]; omega
        · obtain rfl : m = nf := by omega
          obtain ⟨L, eL⟩ : ∃ L : List Value, L = [.int .i64 kd, .bool bb, .int .i64 ni, .float .f64 f, .string tx, .string ty, .slice bi k di, .slice bf m df] := ⟨_, rfl⟩
          have hL8 : L.length = 8 := by rw [eL]; rfl
          have hrL : wr.rangeAt w1.heap.size 0 L := by rw [eL]; exact hT.c2
          have iL : (Try.prog.info? 27).map (·.size) = some L.length := by rw [hL8]; exact infoV
          have iL' : (Try.prog.info? 27).map (·.size) = some L.toArray.size := by simp [hL8, infoV]
          have ho8 : L.toArray.all (·.oneCell') = true := by rw [eL]; simp [Value.oneCell']
          have hthL : wr.there (w.heap.size + 1) 0 L.toArray.size := by simp only [List.size_toArray, hL8]; exact hT.th
          have HH := hide (And.intro hthL (And.intro hrL (And.intro iL (And.intro iL' (And.intro hL8 eL)))))
          clear hthL hrL iL iL' hL8 eL hT
          go_wp2_with (first
            | refine wpList_load_mid (by rfl) 27 _ (by rfl) w1.heap.size 0 (by rfl) L _ (unhide HH).2.1 Try.underlying27 (by rfl) (unhide HH).2.2.1 ?_
            | refine wpList_store_mid (by rfl) 27 _ _ (by rfl) (w.heap.size + 1) 0 L.toArray (by rfl) (by rfl) (unhide HH).1 (unhide HH).2.2.2.1 ho8 ?_)
          obtain ⟨hthL, hrL, iL, iL', hL8, eL⟩ := unhide HH
          have hT := unhide HT
          have hr4 : (wr.setCells (w.heap.size + 1) 0 L).rangeAt (w.heap.size + 1) 0 L := World.rangeAt_setCells_same _ _ _ _ (by have h := hthL; rw [List.size_toArray] at h; exact h)
          have g4 : Below w.heap.size w (wr.setCells (w.heap.size + 1) 0 L) := below_setCells _ _ _ _ hT.bel (Nat.le_succ _)
          have c4 : ∀ b j, b ≠ w.heap.size + 1 → (wr.setCells (w.heap.size + 1) 0 L).cell? ⟨b, j, none⟩ = wr.cell? ⟨b, j, none⟩ := fun b j h2 => World.cell?_setCells_out _ _ _ _ _ (fun e _ => absurd (show b = w.heap.size + 1 from e) h2)
          refine bodyPost_ret (rgn.result_row rfl _ _ (w.heap.size + 1) 0 L _ rfl hr4 Try.underlying27 rfl iL) rfl ?_
          refine ⟨_, L, rfl, rfl, ?_, g4⟩
          have hIt : AvI Q (wr.setCells (w.heap.size + 1) 0 L) (turnI its) bi k := by
            rw [turnI_of]
            rcases hp with ⟨h0, rfl⟩ | rfl
            · have : its.list = [] := List.eq_nil_of_length_eq_zero ((unhide EI).trans h0)
              rw [this]
              simp only [List.map_nil, Vls.of]
              unfold AvI
              exact h0
            · by_cases hk0 : k = 0
              · have : its.list = [] := List.eq_nil_of_length_eq_zero ((unhide EI).trans hk0)
                rw [this]
                simp only [List.map_nil, Vls.of]
                unfold AvI
                exact hk0
              · have hpp : w.heap.size + 1 < p := hp1.resolve_left hk0
                have hnq : ¬ Q p := fun h => by have := hQ _ h; omega
                have := AvI.mk (w := wr.setCells (w.heap.size + 1) 0 L) hnq (its.list.map turnV) 0 (fun i u hu => by
                  rw [List.getElem?_map, Option.map_eq_some_iff] at hu
                  obtain ⟨x, hx, rfl⟩ := hu
                  obtain ⟨us, r1, r2⟩ := hT.dI i x (by rw [← unhide EI]; exact (List.getElem?_eq_some_iff.1 hx).1) hx
                  exact ⟨us, fun j y hy => (c4 _ _ (by omega)).trans (by have := r1 j y hy; rwa [show 0 + i * 8 + j = i * 8 + j by omega]), AvC.agree (fun b _ hn e => hn (.inl e)) (fun b j _ hn => c4 b j (fun e => hn (.inr (.inr (.inl e))))) _ us r2⟩)
                rw [List.length_map, unhide EI] at this
                exact this
          have hFt : AvF Q (wr.setCells (w.heap.size + 1) 0 L) (turnF fls .nil) bf m := by
            rw [turnF_of]
            have hrl : (rvF fls).length = m := by unfold rvF; rw [List.length_map, List.length_reverse, unhide EF]
            rcases hq with ⟨h0, rfl⟩ | rfl
            · have : rvF fls = [] := List.eq_nil_of_length_eq_zero (hrl.trans h0)
              rw [this]
              simp only [Fls.of]
              unfold AvF
              exact h0
            · by_cases hk0 : m = 0
              · have : rvF fls = [] := List.eq_nil_of_length_eq_zero (hrl.trans hk0)
                rw [this]
                simp only [Fls.of]
                unfold AvF
                exact hk0
              · have hpp : w.heap.size + 1 < q := hq1.resolve_left hk0
                have hnq : ¬ Q q := fun h => by have := hQ _ h; omega
                have := AvF.mk (w := wr.setCells (w.heap.size + 1) 0 L) hnq (rvF fls) 0 (fun i x hx => by
                  obtain ⟨us, r0, rz, r1, r2⟩ := hT.dF i x (by rw [← hrl]; exact (List.getElem?_eq_some_iff.1 hx).1) hx
                  exact ⟨us, (c4 _ _ (by omega)).trans (by rw [Nat.zero_add]; exact r0), rz, fun j y hy => (c4 _ _ (by omega)).trans (by have := r1 j y hy; rwa [show 0 + i * 9 + 1 + j = i * 9 + 1 + j by omega]), AvC.agree (fun b _ hn e => hn (.inl e)) (fun b j _ hn => c4 b j (fun e => hn (.inr (.inr (.inl e))))) _ us r2⟩)
                rw [hrl] at this
                exact this
          unfold turnV AvC
          exact ⟨bi, k, di, bf, m, df, eL, hIt, hFt, s1, s2, s3, s4, s5, s6, s7, s8, s9, s10⟩
end Go.Proofs.Ythpcpminikmcbaa.og
namespace Go.Proofs.Ythpcpminikmcbaa.og
open Go.ChangeShapes Go.WideShapes Go.ChangeAt Go.RowKit Go.Shelf
open vl hiding cB cFl cS cF cI cK cIt
open stp (c3 c3_lt c3_gt c3_eq cB cB_tri St)
attribute [local go_sem] Oper.semAt_some
set_option linter.unusedVariables false
set_option linter.unusedSimpArgs false
/-- a value's children, each with the step to it -/
def kids : Vl → List (St × Vl)
  | .mk kd _ _ _ _ _ its fls => if kd = 5 then its.list.zipIdx.map (fun p => (⟨⟨#[]⟩, (p.2 : Int), true⟩, p.1)) else if kd = 6 then fls.list.map (fun q => (⟨q.1, 0, false⟩, q.2)) else []
/-- a child as it is handed to yield: it can be read in w0 -/
def Kid (w0 : World) (ks : List (St × Vl)) : Type := { x : St × Vl × List Value // VlC w0 x.2.1 x.2.2 ∧ (x.1, x.2.1) ∈ ks }
def Kid.sv {w0 : World} {ks : List (St × Vl)} (x : Kid w0 ks) : St × Vl := (x.1.1, x.1.2.1)
def Kid.enc {w0 : World} {ks : List (St × Vl)} (x : Kid w0 ks) : Array Value := #[.agg #[.string x.1.1.nm, .int .i64 x.1.1.ix, .bool x.1.1.it], .agg x.1.2.2.toArray]
theorem take_map_snoc {w0 : World} {ks l : List (St × Vl)} {pre : List (Kid w0 ks)} {k : Nat} {x : Kid w0 ks} (h : pre.map Kid.sv = l.take k) (hx : l[k]? = some x.sv) : (pre ++ [x]).map Kid.sv = l.take (k + 1) := by
  rw [List.map_append, h, List.take_add_one, hx]
  rfl
theorem pre_len {w0 : World} {ks l : List (St × Vl)} {pre : List (Kid w0 ks)} {k : Nat} (h : pre.map Kid.sv = l.take k) (hk : k < l.length) : pre.length < l.length := by
  have := congrArg List.length h
  simp at this
  omega
theorem kids_list (b : Bool) (n : Int) (f : Nat) (tx ty : ByteArray) (its : Vls) (fls : Fls) : kids (.mk 5 b n f tx ty its fls) = its.list.zipIdx.map (fun p => (⟨⟨#[]⟩, (p.2 : Int), true⟩, p.1)) := by simp [kids]
theorem kids_obj (b : Bool) (n : Int) (f : Nat) (tx ty : ByteArray) (its : Vls) (fls : Fls) : kids (.mk 6 b n f tx ty its fls) = fls.list.map (fun q => (⟨q.1, 0, false⟩, q.2)) := by simp [kids]
theorem kids_none {kd : Int} (h5 : kd ≠ 5) (h6 : kd ≠ 6) (b : Bool) (n : Int) (f : Nat) (tx ty : ByteArray) (its : Vls) (fls : Fls) : kids (.mk kd b n f tx ty its fls) = [] := by simp [kids, h5, h6]
theorem keepC' {w w' : World} {b o : Nat} {u : Value} (h : Below w.heap.size w w') (hc : w.cell? ⟨b, o, none⟩ = some u) : w'.cell? ⟨b, o, none⟩ = some u := keepC h (World.block_lt_of_cell? w _ hc) hc
theorem children_in (F : Fence) (n : Nat) (hF : F.fn 37) (hro : F.round = none) (cs : List Value) (w : World) :
    CallsIn F n Try.prog 37 #[.agg cs.toArray] w fun e w' => e = .returned (.func (.func 71) #[] #[.pointer (some ⟨w.heap.size, 0, none⟩)]) ∧ w' = w.alloc (.cells cs.toArray 27) := by
  refine callsIn_of_wp Try.func37 rfl hF ?_ hro
  simp only [Try.ntmps37, List.size_toArray, List.length_cons, List.length_nil, Nat.reduceAdd, Nat.reduceSub, Array.replicate_succ, Array.replicate_zero, List.push_toArray, List.append_toArray, List.nil_append, List.cons_append]
  gi_wp2
  go_ret
  exact ⟨rfl, rfl⟩
set_option maxRecDepth 100000 in
set_option maxHeartbeats 4000000 in
theorem kids1_in (F : Fence) (n : Nat) (hF : F.fn 71) (hro : F.round = none) (hn : 1 ≤ n) (l Bv : Nat) (w0 : World) (v : Vl) (cs : List Value) (hv : VlC w0 v cs) (hsm : Small v) (ks : List (St × Vl)) (hks : kids v = ks) (J Jx : List (Kid w0 ks) → World → Prop)
    (B : Nat) (hJ : AbidesFrom B J) (hY : ∀ pre x W, J pre W → pre.length < ks.length → YieldAt F (n - 1) Try.prog l (Kid.enc x) W fun e W' =>
      (e = .returned (.bool true) ∧ J (pre ++ [x]) W' ∧ Below w0.heap.size W W') ∨ (e = .returned (.bool false) ∧ Jx (pre ++ [x]) W'))
    (W : World) (h0W : Below w0.heap.size w0 W) (hr : W.rangeAt Bv 0 cs) (h0 : J [] W) :
    CallsIn F n Try.prog 71 #[.func (.yield l) #[] #[], .pointer (some ⟨Bv, 0, none⟩)] W fun e W' => (∃ v, e = .returned v) ∧
      ((∃ xs : List (Kid w0 ks), xs.map Kid.sv = ks ∧ J xs W') ∨ (∃ pre : List (Kid w0 ks), (∃ k, k ≤ ks.length ∧ pre.map Kid.sv = ks.take k) ∧ Jx pre W')) := by
  obtain ⟨kd, b, m, f, tx, ty, its, fls⟩ := v
  unfold VlC at hv
  obtain ⟨ai, ni, ci, af, nf, cf, rfl, hI, hFl, hni, hnf, -, -, -, -, -, -, hci, hcf⟩ := hv
  unfold Small at hsm
  obtain ⟨hlI, hlF, -⟩ := hsm
  have bI : ni ≤ 1256584717458 := by rw [← VlsAt.len its _ _ hI]; exact hlI
  have bF : nf ≤ 1099511627776 := by rw [← FlsAt.len fls _ _ hFl]; exact hlF
  clear hlI hlF hni hnf hci hcf
  have x0 : W.cell? ⟨Bv, 0, none⟩ = some (.int .i64 kd) := hr 0 _ rfl
  have x6 : W.cell? ⟨Bv, 6, none⟩ = some (.slice ai ni ci) := hr 6 _ rfl
  have x7 : W.cell? ⟨Bv, 7, none⟩ = some (.slice af nf cf) := hr 7 _ rfl
  clear hr
  refine callsIn_of_wp Try.func71 rfl hF ?_ hro
  simp only [Try.ntmps71, List.size_toArray, List.length_cons, List.length_nil, Nat.reduceAdd, Nat.reduceSub, Array.replicate_succ, Array.replicate_zero, List.push_toArray, List.append_toArray, List.nil_append, List.cons_append]
  by_cases h5 : kd = 5
  · subst h5
    have hkl := VlsAt.len its _ _ hI
    have KL := hide (show ks.length = ni by rw [← hks, kids_list]; simp [hkl])
    have KK := hide (show ∀ (k : Nat) (u : Vl), its.list[k]? = some u → ks[k]? = some (⟨⟨#[]⟩, (k : Int), true⟩, u) from fun k u hu => by rw [← hks, kids_list]; simp [List.getElem?_zipIdx, hu])
    clear hkl hks
    gi_wp2
    gi_loopw [14] (fun i wr => ∃ (k : Nat) (pre : List (Kid w0 ks)), k ≤ ni ∧ i = .int .i64 k ∧ vl.Hid (pre.map Kid.sv = ks.take k) ∧ J pre wr ∧ Below w0.heap.size w0 wr) (fun i _ => ni - (intOf i).toNat)
    case atStart => exact ⟨0, [], Nat.zero_le _, rfl, hide (by simp), h0, h0W⟩
    case round =>
      obtain ⟨k, pre, hk, rfl, hp, hJs, hnx⟩ := hrel
      by_cases hlt : k < ni
      · have ki : (k : Int) < (ni : Int) := by omega
        obtain ⟨p, off, u, us, rfl, hg, hrow, hu⟩ := VlsAt.get its _ _ hI k hlt
        have hu' := hu
        obtain ⟨ukd, ub, um, uf, utx, uty, uits, ufls⟩ := u
        unfold VlC at hu'
        obtain ⟨uai, uni, uci, uaf, unf, ucf, rfl, -⟩ := hu'
        obtain ⟨z0, z1, z2, z3, z4, z5, z6, z7⟩ := Row8.eight (Row8.below hrow hnx)
        clear hrow
        obtain ⟨x, hx⟩ : ∃ x : Kid w0 ks, x.1 = (⟨⟨#[]⟩, (k : Int), true⟩, .mk ukd ub um uf utx uty uits ufls, [.int .i64 ukd, .bool ub, .int .i64 um, .float .f64 uf, .string utx, .string uty, .slice uai uni uci, .slice uaf unf ucf]) := ⟨⟨_, hu, List.mem_of_getElem? (unhide KK k _ hg)⟩, rfl⟩
        have hsv : x.sv = (⟨⟨#[]⟩, (k : Int), true⟩, .mk ukd ub um uf utx uty uits ufls) := by unfold Kid.sv; rw [hx]
        have henc : x.enc = #[.agg #[.string ⟨#[]⟩, .int .i64 (k : Int), .bool true], .agg #[.int .i64 ukd, .bool ub, .int .i64 um, .float .f64 uf, .string utx, .string uty, .slice uai uni uci, .slice uaf unf ucf]] := by unfold Kid.enc; rw [hx]
        have hnext := hide (take_map_snoc (unhide hp) (by rw [hsv]; exact unhide KK k _ hg))
        obtain ⟨fn, tmps, assign, body, hy, hR⟩ := hY pre x (wr.alloc (.cells #[.int .i64 ukd, .bool ub, .int .i64 um, .float .f64 uf, .string utx, .string uty, .slice uai uni uci, .slice uaf unf ucf] 27)) (hJ _ _ _ none hJs (World.grownBy_alloc _ _ none) (fun r e => by cases e)) (pre_len (unhide hp) (by rw [unhide KL]; exact hlt))
        rw [henc] at hy
        have b3 : Below w0.heap.size w0 (wr.alloc (.cells #[.int .i64 ukd, .bool ub, .int .i64 um, .float .f64 uf, .string utx, .string uty, .slice uai uni uci, .slice uaf unf ucf] 27)) := hnx.alloc hnx.size _
        have B3 := hide b3
        have HR := hide hR
        have HG := hide hg
        clear hx hsv henc hg hu hY b3 hR x0 x6 x7
        have hsf := storeF
        gi_wp2
        clear hsf
        refine (unhide HR).mono ?_
        rintro e W3 (⟨rfl, hJ3, hk3⟩ | ⟨rfl, hJx3⟩)
        · gi_wp2
          go_roundw
          case rel => exact ⟨k + 1, _, by omega, by simp, hnext, hJ3, (unhide B3).trans hk3⟩
          case measure => simp [intOf]; omega
        · gi_wp2
          refine bodyPost_ret (results_none rfl _ _ _) rfl ?_
          exact ⟨⟨_, rfl⟩, .inr ⟨_, ⟨k + 1, by rw [unhide KL]; omega, unhide hnext⟩, hJx3⟩⟩
      · obtain rfl : k = ni := by omega
        gi_wp2
        go_end0
        refine ⟨⟨_, rfl⟩, .inl ⟨_, ?_, hJs⟩⟩
        have := unhide hp
        rwa [List.take_of_length_le (Nat.le_of_eq (unhide KL))] at this
  · by_cases h6 : kd = 6
    · subst h6
      have hkl := FlsAt.len fls _ _ hFl
      have KL := hide (show ks.length = nf by rw [← hks, kids_obj]; simp [hkl])
      have KK := hide (show ∀ (k : Nat) (nm : ByteArray) (u : Vl), fls.list[k]? = some (nm, u) → ks[k]? = some (⟨nm, 0, false⟩, u) from fun k nm u hu => by rw [← hks, kids_obj]; simp [hu])
      clear hkl hks
      gi_wp2
      gi_loopw [31] (fun i wr => ∃ (k : Nat) (pre : List (Kid w0 ks)), k ≤ nf ∧ i = .int .i64 k ∧ vl.Hid (pre.map Kid.sv = ks.take k) ∧ J pre wr ∧ Below w0.heap.size w0 wr) (fun i _ => nf - (intOf i).toNat)
      case atStart => exact ⟨0, [], Nat.zero_le _, rfl, hide (by simp), h0, h0W⟩
      case round =>
        obtain ⟨k, pre, hk, rfl, hp, hJs, hnx⟩ := hrel
        by_cases hlt : k < nf
        · have ki : (k : Int) < (nf : Int) := by omega
          obtain ⟨p, off, nm, u, us, rfl, hg, hn0, -, hrow, hu⟩ := FlsAt.get fls _ _ hFl k hlt
          have hu' := hu
          obtain ⟨ukd, ub, um, uf, utx, uty, uits, ufls⟩ := u
          unfold VlC at hu'
          obtain ⟨uai, uni, uci, uaf, unf, ucf, rfl, -⟩ := hu'
          obtain ⟨z0, z1, z2, z3, z4, z5, z6, z7⟩ := Row8.eight (Row8.below hrow hnx)
          have zn := keepC' hnx hn0
          clear hrow hn0
          obtain ⟨x, hx⟩ : ∃ x : Kid w0 ks, x.1 = (⟨nm, 0, false⟩, .mk ukd ub um uf utx uty uits ufls, [.int .i64 ukd, .bool ub, .int .i64 um, .float .f64 uf, .string utx, .string uty, .slice uai uni uci, .slice uaf unf ucf]) := ⟨⟨_, hu, List.mem_of_getElem? (unhide KK k nm _ hg)⟩, rfl⟩
          have hsv : x.sv = (⟨nm, 0, false⟩, .mk ukd ub um uf utx uty uits ufls) := by unfold Kid.sv; rw [hx]
          have henc : x.enc = #[.agg #[.string nm, .int .i64 0, .bool false], .agg #[.int .i64 ukd, .bool ub, .int .i64 um, .float .f64 uf, .string utx, .string uty, .slice uai uni uci, .slice uaf unf ucf]] := by unfold Kid.enc; rw [hx]
          have hnext := hide (take_map_snoc (unhide hp) (by rw [hsv]; exact unhide KK k nm _ hg))
          obtain ⟨fn, tmps, assign, body, hy, hR⟩ := hY pre x (wr.alloc (.cells #[.string nm, .int .i64 ukd, .bool ub, .int .i64 um, .float .f64 uf, .string utx, .string uty, .slice uai uni uci, .slice uaf unf ucf] 69)) (hJ _ _ _ none hJs (World.grownBy_alloc _ _ none) (fun r e => by cases e)) (pre_len (unhide hp) (by rw [unhide KL]; exact hlt))
          rw [henc] at hy
          have b3 : Below w0.heap.size w0 (wr.alloc (.cells #[.string nm, .int .i64 ukd, .bool ub, .int .i64 um, .float .f64 uf, .string utx, .string uty, .slice uai uni uci, .slice uaf unf ucf] 69)) := hnx.alloc hnx.size _
          have B3 := hide b3
          have HR := hide hR
          have HG := hide hg
          clear hx hsv henc hg hu hY b3 hR x0 x6 x7
          have hsf := storeF
          gi_wp2
          clear hsf
          refine (unhide HR).mono ?_
          rintro e W3 (⟨rfl, hJ3, hk3⟩ | ⟨rfl, hJx3⟩)
          · gi_wp2
            go_roundw
            case rel => exact ⟨k + 1, _, by omega, by simp, hnext, hJ3, (unhide B3).trans hk3⟩
            case measure => simp [intOf]; omega
          · gi_wp2
            refine bodyPost_ret (results_none rfl _ _ _) rfl ?_
            exact ⟨⟨_, rfl⟩, .inr ⟨_, ⟨k + 1, by rw [unhide KL]; omega, unhide hnext⟩, hJx3⟩⟩
        · obtain rfl : k = nf := by omega
          gi_wp2
          go_end0
          refine ⟨⟨_, rfl⟩, .inl ⟨_, ?_, hJs⟩⟩
          have := unhide hp
          rwa [List.take_of_length_le (Nat.le_of_eq (unhide KL))] at this
    · have hq5 : (kd == 5) = false := by simpa using h5
      have hq6 : (kd == 6) = false := by simpa using h6
      have HK := hide (hks.symm.trans (kids_none h5 h6 b m f tx ty its fls))
      gi_wp2
      go_end0
      exact ⟨⟨_, rfl⟩, .inl ⟨[], by rw [unhide HK]; rfl, h0⟩⟩
end Go.Proofs.Ythpcpminikmcbaa.og
namespace Go.Proofs.Ythpcpminikmcbaa.og
open Go.ChangeShapes Go.WideShapes Go.ChangeAt Go.RowKit Go.Shelf
open vl hiding cB cFl cS cF cI cK cIt
open stp (c3 c3_lt c3_gt c3_eq cB cB_tri St)
attribute [local go_sem] Oper.semAt_some
set_option linter.unusedVariables false
set_option linter.unusedSimpArgs false
theorem kids_stops (F : Fence) (n : Nat) (hF : F.fn 71) (hro : F.round = none) (hn : 1 ≤ n) (Bv : Nat) (w0 : World) (v : Vl) (cs : List Value) (hv : VlC w0 v cs) (hsm : Small v) (w : World) (h0w : Below w0.heap.size w0 w) (hB : Bv < w.heap.size) (hr : w.rangeAt Bv 0 cs) :
    SeqStopsK F n Try.prog 71 #[.pointer (some ⟨Bv, 0, none⟩)] (Kid.enc (w0 := w0) (ks := kids v)) (Below w0.heap.size) (fun xs => xs.map Kid.sv = kids v) (fun pre => ∃ k, k ≤ (kids v).length ∧ pre.map Kid.sv = (kids v).take k) (kids v).length w :=
  fun l J Jx W hW hJ hJx hY h0 => kids1_in F n hF hro hn l Bv w0 v cs hv hsm (kids v) rfl J Jx W.heap.size hJ hY W (h0w.trans (hW.mono h0w.size)) (Row8.below hr hW) h0
mutual
/-- how many parts -/
def cnt : Vl → Nat
  | .mk kd _ _ _ _ _ its fls => 1 + (if kd = 5 then cntI its else if kd = 6 then cntF fls else 0)
def cntI : Vls → Nat
  | .nil => 0
  | .cons v r => cnt v + cntI r
def cntF : Fls → Nat
  | .nil => 0
  | .cons _ v r => cnt v + cntF r
end
mutual
/-- how deep, as the machine counts -/
def depW : Vl → Int
  | .mk kd _ _ _ _ _ its fls => if kd = 5 then wrap64 (1 + mxI its 0) else if kd = 6 then wrap64 (1 + mxF fls 0) else 0
def mxI : Vls → Int → Int
  | .nil, a => a
  | .cons v r, a => mxI r (max a (depW v))
def mxF : Fls → Int → Int
  | .nil, a => a
  | .cons _ v r, a => mxF r (max a (depW v))
end
theorem cntI_sum : ∀ l : Vls, cntI l = (l.list.map cnt).sum
  | .nil => by simp [cntI, Vls.list]
  | .cons v r => by rw [cntI, cntI_sum r]; simp [Vls.list]
theorem cntF_sum : ∀ l : Fls, cntF l = (l.list.map (fun q => cnt q.2)).sum
  | .nil => by simp [cntF, Fls.list]
  | .cons nm v r => by rw [cntF, cntF_sum r]; simp [Fls.list]
theorem mxI_fold : ∀ (l : Vls) (a : Int), mxI l a = (l.list.map depW).foldl max a
  | .nil, a => by simp [mxI, Vls.list]
  | .cons v r, a => by rw [mxI, mxI_fold r]; simp [Vls.list]
theorem mxF_fold : ∀ (l : Fls) (a : Int), mxF l a = (l.list.map (fun q => depW q.2)).foldl max a
  | .nil, a => by simp [mxF, Fls.list]
  | .cons nm v r, a => by rw [mxF, mxF_fold r]; simp [Fls.list]
theorem zip_map {α β : Type} (g : α → β) : ∀ (l : List α) (i : Nat), (l.zipIdx i).map (fun p => g p.1) = l.map g
  | [], i => rfl
  | a :: l, i => by simp only [List.zipIdx_cons, List.map_cons]; rw [zip_map g l (i + 1)]
theorem kids_map {β : Type} (g : Vl → β) (kd : Int) (b : Bool) (n : Int) (f : Nat) (tx ty : ByteArray) (its : Vls) (fls : Fls) :
    (kids (.mk kd b n f tx ty its fls)).map (fun p => g p.2) = if kd = 5 then its.list.map g else if kd = 6 then fls.list.map (fun q => g q.2) else [] := by
  by_cases h5 : kd = 5
  · subst h5
    rw [kids_list, if_pos rfl, List.map_map]
    exact zip_map g its.list 0
  · by_cases h6 : kd = 6
    · subst h6
      rw [kids_obj, if_neg h5, if_pos rfl, List.map_map]
      rfl
    · rw [kids_none h5 h6, if_neg h5, if_neg h6]
      rfl
theorem cnt_kids (v : Vl) : cnt v = 1 + ((kids v).map (fun p => cnt p.2)).sum := by
  obtain ⟨kd, b, n, f, tx, ty, its, fls⟩ := v
  rw [kids_map, cnt, cntI_sum, cntF_sum]
  split
  · rfl
  · split <;> rfl
theorem dep_kids (kd : Int) (b : Bool) (n : Int) (f : Nat) (tx ty : ByteArray) (its : Vls) (fls : Fls) (h : kd = 5 ∨ kd = 6) : depW (.mk kd b n f tx ty its fls) = wrap64 (1 + ((kids (.mk kd b n f tx ty its fls)).map (fun p => depW p.2)).foldl max 0) := by
  rw [kids_map, depW, mxI_fold, mxF_fold]
  rcases h with rfl | rfl <;> simp
theorem mem_kids {P : Vl → Prop} {kd : Int} {b : Bool} {n : Int} {f : Nat} {tx ty : ByteArray} {its : Vls} {fls : Fls} (hI : ∀ v ∈ its.list, P v) (hF : ∀ q ∈ fls.list, P q.2) : ∀ p ∈ kids (.mk kd b n f tx ty its fls), P p.2 := by
  intro p hp
  have : P p.2 ∨ False := by
    have hm := List.mem_map_of_mem (f := fun p : St × Vl => p.2) hp
    rw [kids_map (fun v => v)] at hm
    split at hm
    · exact .inl (hI _ (by simpa using hm))
    · split at hm
      · simp only [List.mem_map] at hm
        obtain ⟨q, hq, e⟩ := hm
        exact .inl (e ▸ hF q hq)
      · simp at hm
  exact this.elim id False.elim
def CountAt (v : Vl) : Prop := ∀ (cs : List Value) (w : World), VlC w v cs → Calls Try.prog 18 #[.agg cs.toArray] w fun e w' => e = .returned (.int .i64 (wrap64 (cnt v : Nat))) ∧ Below w.heap.size w w'
theorem wrap_add (x y : Int) : wrap64 (wrap64 x + wrap64 y) = wrap64 (x + y) := by unfold wrap64; omega
theorem keepsFrom_below {B : Nat} {W W' : World} (h : Below W.heap.size W W') : KeepsFrom B W W' := ⟨h.size, fun k o _ hk _ => (h.block k (Array.getElem?_eq_some_iff.1 hk).1).trans hk⟩
theorem range_own {β : Type} (B : Nat) (f : β → List Value) (hne : ∀ s, f s ≠ []) : Own (fun s W => W.rangeAt B 0 (f s)) := fun s X Y row hs hg hrow j u hu => cell_kept (hs j u hu) hg hrow
set_option maxRecDepth 100000 in
set_option maxHeartbeats 4000000 in
theorem count_step (v : Vl) (hsm : Small v) (ih : ∀ p ∈ kids v, CountAt p.2) : CountAt v := by
  intro cs w hv
  have hc0 := hv
  obtain ⟨kd, b, m, f, tx, ty, its, fls⟩ := v
  unfold VlC at hc0
  obtain ⟨ai, ni, ci, af, nf, cf, rfl, -⟩ := hc0
  have hck := hide (cnt_kids (.mk kd b m f tx ty its fls))
  have hsf := storeF
  refine (callsIn_wide (n := 8)).1 ?_
  refine callsIn_of_wp_marks Try.func18 rfl trivial ?_ rfl
  simp only [Try.ntmps18, List.size_toArray, List.length_cons, List.length_nil, Nat.reduceAdd, Nat.reduceSub, Array.replicate_succ, Array.replicate_zero, List.push_toArray, List.append_toArray, List.nil_append, List.cons_append]
  gi_wp2_with (refine ⟨trivial, ?_⟩; gi_at_call 37; refine (children_in Fence.wide _ trivial rfl _ _).mono ?_; rintro e w' ⟨rfl, rfl⟩)
  obtain ⟨W0, hW0⟩ : ∃ W0, W0 = ((w.alloc (.cells #[Value.int IntKind.i64 kd, Value.bool b, Value.int IntKind.i64 m, Value.float FloatKind.f64 f, Value.string tx, Value.string ty, Value.slice ai ni ci, Value.slice af nf cf] 27)).alloc (.cells #[.int .i64 1] 3)).alloc (.cells #[Value.int IntKind.i64 kd, Value.bool b, Value.int IntKind.i64 m, Value.float FloatKind.f64 f, Value.string tx, Value.string ty, Value.slice ai ni ci, Value.slice af nf cf] 27) := ⟨_, rfl⟩
  have hB0 : Below w.heap.size w W0 := by rw [hW0]; exact (((Below.refl _ _).alloc (Nat.le_refl _) _).alloc (by simp) _).alloc (by simp; omega) _
  have hsz : w.heap.size + 2 < W0.heap.size := by rw [hW0]; simp
  have bN : Boxed W0 (w.heap.size + 1) 3 (.int .i64 1) := by rw [hW0]; have := (Boxed.new (w.alloc (.cells #[Value.int IntKind.i64 kd, Value.bool b, Value.int IntKind.i64 m, Value.float FloatKind.f64 f, Value.string tx, Value.string ty, Value.slice ai ni ci, Value.slice af nf cf] 27)) 3 (.int .i64 1)).alloc (.cells #[Value.int IntKind.i64 kd, Value.bool b, Value.int IntKind.i64 m, Value.float FloatKind.f64 f, Value.string tx, Value.string ty, Value.slice ai ni ci, Value.slice af nf cf] 27); simpa using this
  have rV : W0.rangeAt (w.heap.size + 1 + 1) 0 [Value.int IntKind.i64 kd, Value.bool b, Value.int IntKind.i64 m, Value.float FloatKind.f64 f, Value.string tx, Value.string ty, Value.slice ai ni ci, Value.slice af nf cf] := fun j x hx => by rw [hW0, Nat.zero_add, World.cell?_alloc_at _ _ _ _ (by simp)]; simpa using hx
  rw [← hW0]
  clear hW0
  have hsf2 := hide hsf
  clear hsf
  refine wpIn_rangeFunc_ownH (α := Kid w (kids (.mk kd b m f tx ty its fls))) rfl (by omega) (gf := 71) (lb := #[.pointer (some ⟨w.heap.size + 1 + 1, 0, none⟩)]) rfl trivial (enters_of Try.func71 (by kernel_rfl) rfl)
    (kids_stops Fence.wide (8 - 1) trivial rfl (by omega) (w.heap.size + 1 + 1) w (.mk kd b m f tx ty its fls) _ hv hsm W0 hB0 (by omega) rV) belowK_t (belowK_b (by omega)) (Below.refl _ _) (fun _ => rfl)
    (fun pre W => Boxed W (w.heap.size + 1) 3 (.int .i64 (wrap64 ((1 + ((pre.map Kid.sv).map (fun p => cnt p.2)).sum : Nat) : Int))) ∧ Below w.heap.size w W)
    (fun _ _ _ => False)
    (OwnFrom.and (Own.from (boxed_own _ _ _) _) (ownFrom_below (Nat.le_refl _) (by omega)))
    (fun _ _ _ _ _ hs _ _ => hs)
    ⟨(show Boxed W0 (w.heap.size + 1) 3 (.int .i64 (wrap64 ((1 + 0 : Nat) : Int))) by rw [show wrap64 ((1 + 0 : Nat) : Int) = 1 by unfold wrap64; omega]; exact bN), hB0⟩
    (fun x a' W => ∃ Bx, w.heap.size + 1 < Bx ∧ Bx < W.heap.size ∧ W.rangeAt Bx 0 x.1.2.2 ∧ a' = { tmps := #[.agg #[Value.int IntKind.i64 kd, Value.bool b, Value.int IntKind.i64 m, Value.float FloatKind.f64 f, Value.string tx, Value.string ty, Value.slice ai ni ci, Value.slice af nf cf], .pointer (some ⟨w.heap.size, 0, none⟩), .int .i64 0, .pointer (some ⟨w.heap.size + 1, 0, none⟩), undef, .pointer (some ⟨Bx, 0, none⟩), .agg #[Value.int IntKind.i64 kd, Value.bool b, Value.int IntKind.i64 m, Value.float FloatKind.f64 f, Value.string tx, Value.string ty, Value.slice ai ni ci, Value.slice af nf cf], .func (.func 71) #[] #[.pointer (some ⟨w.heap.size + 1 + 1, 0, none⟩)], .agg #[.string x.1.1.nm, .int .i64 x.1.1.ix, .bool x.1.1.it], .agg x.1.2.2.toArray, undef, undef, undef, undef, undef], defers := [] })
    (fun x a' _ X Y row hs hg hr => by obtain ⟨Bx, h1, h2, h3, h4⟩ := hs; exact ⟨Bx, h1, Nat.lt_of_lt_of_le h2 hg.size, fun j u hu => cell_kept (h3 j u hu) hg (fun r e => (hr r e).2), h4⟩)
    ?assign ?body ?done ?stop
  case assign =>
    rintro l pre x W K ⟨bN1, hB1⟩ hK
    obtain ⟨⟨s, u, us⟩, hu, hm⟩ := x
    have hu' : VlC w u us := hu
    obtain ⟨ukd, ub, um, uf, utx, uty, uits, ufls⟩ := u
    unfold VlC at hu'
    obtain ⟨uai, uni, uci, uaf, unf, ucf, rfl, -⟩ := hu'
    unfold Kid.enc
    have hsf := unhide hsf2
    clear ih hck hv
    gi_wp2
    refine hK _ _ ((KeepsOthers.alloc _ _).from _) ((Below.refl _ W).alloc hB1.size _) ⟨bN1.alloc _, hB1.alloc hB1.size _⟩ ⟨W.heap.size, bN1.lt, by simp, fun j x hx => ?_, rfl⟩
    rw [Nat.zero_add, World.cell?_alloc_at _ _ _ _ rfl]
    simpa using hx
  case body =>
    rintro l pre x a' W hl ⟨r, hr⟩ ⟨bN1, hB1⟩ ⟨Bx, hBx, hBl, hrow, rfl⟩ hlt
    obtain ⟨⟨s, u, us⟩, hu, hm⟩ := x
    have IH := hide (ih (s, u) hm us W.drew (VlC.below hB1.drew _ _ hu))
    have hsum := hide (show (1 + (((pre ++ [⟨(s, u, us), hu, hm⟩] : List (Kid w (kids (.mk kd b m f tx ty its fls)))).map Kid.sv).map (fun p => cnt p.2)).sum : Nat) = (1 + ((pre.map Kid.sv).map (fun p => cnt p.2)).sum) + cnt u by rw [List.map_append, List.map_append, List.sum_append]; show 1 + (_ + (cnt u + 0)) = _; omega)
    have hu' : VlC w u us := hu
    obtain ⟨ukd, ub, um, uf, utx, uty, uits, ufls⟩ := u
    unfold VlC at hu'
    obtain ⟨uai, uni, uci, uaf, unf, ucf, rfl, -⟩ := hu'
    obtain ⟨z0, z1, z2, z3, z4, z5, z6, z7⟩ := Row8.eight hrow
    simp only [Nat.zero_add] at z1 z2 z3 z4 z5 z6 z7
    generalize (1 + ((pre.map Kid.sv).map (fun p => cnt p.2)).sum : Nat) = S at *
    have cN := bN1.cell
    have fN := bN1.frozen
    have hmx : Try.prog.follows .mixedOrders = true := by kernel_rfl
    have lN := bN1.lt
    clear hrow hck ih hv
    gi_wp2
    gi_region_with_o (refine ⟨trivial, ?_⟩; gi_at_call 18; refine (CallsIn.inRound l (callsIn_wide.2 (unhide IH))).mono ?_; rintro e w2 ⟨rfl, b2⟩; have c2 : w2.cell? ⟨w.heap.size + 1, 0, none⟩ = some (.int .i64 (wrap64 (S : Int))) := (b2.cell (p := ⟨w.heap.size + 1, 0, none⟩) lN).trans cN; have f2 : w2.frozen? ⟨w.heap.size + 1, 0, none⟩ = false := (b2.frozen (p := ⟨w.heap.size + 1, 0, none⟩) lN).trans fN)
    all_goals gi_wp2
    all_goals (try go_bits)
    all_goals
      have bW2 : Below W.heap.size W w2 := (Below.refl _ _).drew.trans b2
      have bx2 : Boxed w2 (w.heap.size + 1) 3 (.int .i64 (wrap64 (S : Int))) := (bW2.block _ lN).trans bN1
      refine ⟨(keepsFrom_below bW2).trans ((KeepsOthers.setCell _ _ _).from _), (bW2.mono hB1.size).setCell (p := ⟨w.heap.size + 1, 0, none⟩) (Nat.le_succ _) _, ?_, (hB1.trans (bW2.mono hB1.size)).setCell (p := ⟨w.heap.size + 1, 0, none⟩) (Nat.le_succ _) _⟩
      rw [unhide hsum, Int.natCast_add]
      simp only [wrap_add]
      exact bx2.set _
  case done =>
    rintro D xs W hD hxs ⟨bN1, hB1⟩ hK
    have cN := bN1.cell
    gi_wp2
    refine ⟨by simp, .inl ⟨_, _, rfl, run_takeDeferred hK, ?_⟩⟩
    refine ⟨_, results_tmp rfl _ _ _, ?_, hB1.trans (belowK_b (w := w) (Nat.le_refl _) W D _ _ (by have := hB0.size; omega) hK rfl rfl)⟩
    rw [unhide hck, ← hxs]
    rfl
  case stop =>
    rintro D c pre W _ _ h _
    exact h.elim
theorem count_ok : ∀ v : Vl, Small v → CountAt v := by
  refine Vl.all ?_
  intro kd b n f tx ty its fls hI hF hsm
  have hs := hsm
  unfold Small at hs
  obtain ⟨-, -, -, hsI, hsF⟩ := hs
  exact count_step _ hsm (mem_kids (fun v hv => hI v hv (hsI.all v hv)) (fun q hq => hF q hq (hsF.all q hq)))
end Go.Proofs.Ythpcpminikmcbaa.og
namespace Go.Proofs.Ythpcpminikmcbaa.og
open Go.ChangeShapes Go.WideShapes Go.ChangeAt Go.RowKit Go.Shelf
open vl hiding cB cFl cS cF cI cK cIt
open stp (c3 c3_lt c3_gt c3_eq cB cB_tri St)
attribute [local go_sem] Oper.semAt_some
set_option linter.unusedVariables false
set_option linter.unusedSimpArgs false
def DepthAt (v : Vl) : Prop := ∀ (cs : List Value) (w : World), VlC w v cs → Calls Try.prog 30 #[.agg cs.toArray] w fun e w' => e = .returned (.int .i64 (depW v)) ∧ Below w.heap.size w w'
set_option maxRecDepth 100000 in
set_option maxHeartbeats 4000000 in
theorem depth5 (b : Bool) (m : Int) (f : Nat) (tx ty : ByteArray) (its : Vls) (fls : Fls) (hsm : Small (.mk 5 b m f tx ty its fls)) (ih : ∀ p ∈ kids (.mk 5 b m f tx ty its fls), DepthAt p.2) : DepthAt (.mk 5 b m f tx ty its fls) := by
  intro cs w hv
  have hc0 := hv
  unfold VlC at hc0
  obtain ⟨ai, ni, ci, af, nf, cf, rfl, -⟩ := hc0
  have hck := hide (dep_kids 5 b m f tx ty its fls (by omega))
  have hsf := storeF
  refine (callsIn_wide (n := 8)).1 ?_
  refine callsIn_of_wp_marks Try.func30 rfl trivial ?_ rfl
  simp only [Try.ntmps30, List.size_toArray, List.length_cons, List.length_nil, Nat.reduceAdd, Nat.reduceSub, Array.replicate_succ, Array.replicate_zero, List.push_toArray, List.append_toArray, List.nil_append, List.cons_append]
  gi_wp2_with (refine ⟨trivial, ?_⟩; gi_at_call 37; refine (children_in Fence.wide _ trivial rfl _ _).mono ?_; rintro e w' ⟨rfl, rfl⟩)
  obtain ⟨W0, hW0⟩ : ∃ W0, W0 = ((w.alloc (.cells #[Value.int IntKind.i64 5, Value.bool b, Value.int IntKind.i64 m, Value.float FloatKind.f64 f, Value.string tx, Value.string ty, Value.slice ai ni ci, Value.slice af nf cf] 27)).alloc (.cells #[.int .i64 0] 3)).alloc (.cells #[Value.int IntKind.i64 5, Value.bool b, Value.int IntKind.i64 m, Value.float FloatKind.f64 f, Value.string tx, Value.string ty, Value.slice ai ni ci, Value.slice af nf cf] 27) := ⟨_, rfl⟩
  have hB0 : Below w.heap.size w W0 := by rw [hW0]; exact (((Below.refl _ _).alloc (Nat.le_refl _) _).alloc (by simp) _).alloc (by simp; omega) _
  have hsz : w.heap.size + 2 < W0.heap.size := by rw [hW0]; simp
  have bN : Boxed W0 (w.heap.size + 1) 3 (.int .i64 0) := by rw [hW0]; have := (Boxed.new (w.alloc (.cells #[Value.int IntKind.i64 5, Value.bool b, Value.int IntKind.i64 m, Value.float FloatKind.f64 f, Value.string tx, Value.string ty, Value.slice ai ni ci, Value.slice af nf cf] 27)) 3 (.int .i64 0)).alloc (.cells #[Value.int IntKind.i64 5, Value.bool b, Value.int IntKind.i64 m, Value.float FloatKind.f64 f, Value.string tx, Value.string ty, Value.slice ai ni ci, Value.slice af nf cf] 27); simpa using this
  have rV : W0.rangeAt (w.heap.size + 1 + 1) 0 [Value.int IntKind.i64 5, Value.bool b, Value.int IntKind.i64 m, Value.float FloatKind.f64 f, Value.string tx, Value.string ty, Value.slice ai ni ci, Value.slice af nf cf] := fun j x hx => by rw [hW0, Nat.zero_add, World.cell?_alloc_at _ _ _ _ (by simp)]; simpa using hx
  rw [← hW0]
  clear hW0
  have hsf2 := hide hsf
  clear hsf
  refine wpIn_rangeFunc_ownH (α := Kid w (kids (.mk 5 b m f tx ty its fls))) rfl (by omega) (gf := 71) (lb := #[.pointer (some ⟨w.heap.size + 1 + 1, 0, none⟩)]) rfl trivial (enters_of Try.func71 (by kernel_rfl) rfl)
    (kids_stops Fence.wide (8 - 1) trivial rfl (by omega) (w.heap.size + 1 + 1) w (.mk 5 b m f tx ty its fls) _ hv hsm W0 hB0 (by omega) rV) belowK_t (belowK_b (by omega)) (Below.refl _ _) (fun _ => rfl)
    (fun pre W => Boxed W (w.heap.size + 1) 3 (.int .i64 (((pre.map Kid.sv).map (fun p => depW p.2)).foldl max 0)) ∧ Below w.heap.size w W)
    (fun _ _ _ => False)
    (OwnFrom.and (Own.from (boxed_own _ _ _) _) (ownFrom_below (Nat.le_refl _) (by omega)))
    (fun _ _ _ _ _ hs _ _ => hs)
    ⟨bN, hB0⟩
    (fun x a' W => ∃ Bx, w.heap.size + 1 < Bx ∧ Bx < W.heap.size ∧ W.rangeAt Bx 0 x.1.2.2 ∧ a' = { tmps := #[.agg #[Value.int IntKind.i64 5, Value.bool b, Value.int IntKind.i64 m, Value.float FloatKind.f64 f, Value.string tx, Value.string ty, Value.slice ai ni ci, Value.slice af nf cf], .pointer (some ⟨w.heap.size, 0, none⟩), .int .i64 0, .pointer (some ⟨w.heap.size + 1, 0, none⟩), undef, .pointer (some ⟨Bx, 0, none⟩), .pointer (some ⟨w.heap.size, 0, none⟩), .int .i64 5, .bool false, .bool false, undef, undef, undef, .bool false, .agg #[Value.int IntKind.i64 5, Value.bool b, Value.int IntKind.i64 m, Value.float FloatKind.f64 f, Value.string tx, Value.string ty, Value.slice ai ni ci, Value.slice af nf cf], .func (.func 71) #[] #[.pointer (some ⟨w.heap.size + 1 + 1, 0, none⟩)], .agg #[.string x.1.1.nm, .int .i64 x.1.1.ix, .bool x.1.1.it], .agg x.1.2.2.toArray, undef, undef, undef, undef, undef, undef], defers := [] })
    (fun x a' _ X Y row hs hg hr => by obtain ⟨Bx, h1, h2, h3, h4⟩ := hs; exact ⟨Bx, h1, Nat.lt_of_lt_of_le h2 hg.size, fun j u hu => cell_kept (h3 j u hu) hg (fun r e => (hr r e).2), h4⟩)
    ?assign ?body ?done ?stop
  case assign =>
    rintro l pre x W K ⟨bN1, hB1⟩ hK
    obtain ⟨⟨s, u, us⟩, hu, hm⟩ := x
    have hu' : VlC w u us := hu
    obtain ⟨ukd, ub, um, uf, utx, uty, uits, ufls⟩ := u
    unfold VlC at hu'
    obtain ⟨uai, uni, uci, uaf, unf, ucf, rfl, -⟩ := hu'
    unfold Kid.enc
    have hsf := unhide hsf2
    clear ih hck hv
    gi_wp2
    refine hK _ _ ((KeepsOthers.alloc _ _).from _) ((Below.refl _ W).alloc hB1.size _) ⟨bN1.alloc _, hB1.alloc hB1.size _⟩ ⟨W.heap.size, bN1.lt, by simp, fun j x hx => ?_, rfl⟩
    rw [Nat.zero_add, World.cell?_alloc_at _ _ _ _ rfl]
    simpa using hx
  case body =>
    rintro l pre x a' W hl ⟨r, hr⟩ ⟨bN1, hB1⟩ ⟨Bx, hBx, hBl, hrow, rfl⟩ hlt
    obtain ⟨⟨s, u, us⟩, hu, hm⟩ := x
    have IH := hide (ih (s, u) hm us W.drew (VlC.below hB1.drew _ _ hu))
    have hsum := hide (show (((pre ++ [⟨(s, u, us), hu, hm⟩] : List (Kid w (kids (.mk 5 b m f tx ty its fls)))).map Kid.sv).map (fun p => depW p.2)).foldl max 0 = max (((pre.map Kid.sv).map (fun p => depW p.2)).foldl max 0) (depW u) by rw [List.map_append, List.map_append, List.foldl_append]; rfl)
    have hu' : VlC w u us := hu
    obtain ⟨ukd, ub, um, uf, utx, uty, uits, ufls⟩ := u
    unfold VlC at hu'
    obtain ⟨uai, uni, uci, uaf, unf, ucf, rfl, -⟩ := hu'
    obtain ⟨z0, z1, z2, z3, z4, z5, z6, z7⟩ := Row8.eight hrow
    simp only [Nat.zero_add] at z1 z2 z3 z4 z5 z6 z7
    generalize ((pre.map Kid.sv).map (fun p => depW p.2)).foldl max 0 = S at *
    have cN := bN1.cell
    have fN := bN1.frozen
    have hmx : Try.prog.follows .mixedOrders = true := by kernel_rfl
    have lN := bN1.lt
    clear hrow hck ih hv
    gi_wp2
    gi_region_with_o (refine ⟨trivial, ?_⟩; gi_at_call 30; refine (CallsIn.inRound l (callsIn_wide.2 (unhide IH))).mono ?_; rintro e w2 ⟨rfl, b2⟩; have c2 : w2.cell? ⟨w.heap.size + 1, 0, none⟩ = some (.int .i64 S) := (b2.cell (p := ⟨w.heap.size + 1, 0, none⟩) lN).trans cN; have f2 : w2.frozen? ⟨w.heap.size + 1, 0, none⟩ = false := (b2.frozen (p := ⟨w.heap.size + 1, 0, none⟩) lN).trans fN)
    all_goals gi_wp2
    all_goals (try go_bits)
    all_goals
      have bW2 : Below W.heap.size W w2 := (Below.refl _ _).drew.trans b2
      have bx2 : Boxed w2 (w.heap.size + 1) 3 (.int .i64 S) := (bW2.block _ lN).trans bN1
      refine ⟨(keepsFrom_below bW2).trans ((KeepsOthers.setCell _ _ _).from _), (bW2.mono hB1.size).setCell (p := ⟨w.heap.size + 1, 0, none⟩) (Nat.le_succ _) _, ?_, (hB1.trans (bW2.mono hB1.size)).setCell (p := ⟨w.heap.size + 1, 0, none⟩) (Nat.le_succ _) _⟩
      rw [unhide hsum]
      exact bx2.set _
  case done =>
    rintro D xs W hD hxs ⟨bN1, hB1⟩ hK
    have cN := bN1.cell
    gi_wp2
    refine ⟨by simp, .inl ⟨_, _, rfl, run_takeDeferred hK, ?_⟩⟩
    refine ⟨_, results_tmp rfl _ _ _, ?_, hB1.trans (belowK_b (w := w) (Nat.le_refl _) W D _ _ (by have := hB0.size; omega) hK rfl rfl)⟩
    rw [unhide hck, ← hxs]
    rfl
  case stop =>
    rintro D c pre W _ _ h _
    exact h.elim
set_option maxRecDepth 100000 in
set_option maxHeartbeats 4000000 in
theorem depth6 (b : Bool) (m : Int) (f : Nat) (tx ty : ByteArray) (its : Vls) (fls : Fls) (hsm : Small (.mk 6 b m f tx ty its fls)) (ih : ∀ p ∈ kids (.mk 6 b m f tx ty its fls), DepthAt p.2) : DepthAt (.mk 6 b m f tx ty its fls) := by
  intro cs w hv
  have hc0 := hv
  unfold VlC at hc0
  obtain ⟨ai, ni, ci, af, nf, cf, rfl, -⟩ := hc0
  have hck := hide (dep_kids 6 b m f tx ty its fls (by omega))
  have hsf := storeF
  refine (callsIn_wide (n := 8)).1 ?_
  refine callsIn_of_wp_marks Try.func30 rfl trivial ?_ rfl
  simp only [Try.ntmps30, List.size_toArray, List.length_cons, List.length_nil, Nat.reduceAdd, Nat.reduceSub, Array.replicate_succ, Array.replicate_zero, List.push_toArray, List.append_toArray, List.nil_append, List.cons_append]
  gi_wp2_with (refine ⟨trivial, ?_⟩; gi_at_call 37; refine (children_in Fence.wide _ trivial rfl _ _).mono ?_; rintro e w' ⟨rfl, rfl⟩)
  obtain ⟨W0, hW0⟩ : ∃ W0, W0 = ((w.alloc (.cells #[Value.int IntKind.i64 6, Value.bool b, Value.int IntKind.i64 m, Value.float FloatKind.f64 f, Value.string tx, Value.string ty, Value.slice ai ni ci, Value.slice af nf cf] 27)).alloc (.cells #[.int .i64 0] 3)).alloc (.cells #[Value.int IntKind.i64 6, Value.bool b, Value.int IntKind.i64 m, Value.float FloatKind.f64 f, Value.string tx, Value.string ty, Value.slice ai ni ci, Value.slice af nf cf] 27) := ⟨_, rfl⟩
  have hB0 : Below w.heap.size w W0 := by rw [hW0]; exact (((Below.refl _ _).alloc (Nat.le_refl _) _).alloc (by simp) _).alloc (by simp; omega) _
  have hsz : w.heap.size + 2 < W0.heap.size := by rw [hW0]; simp
  have bN : Boxed W0 (w.heap.size + 1) 3 (.int .i64 0) := by rw [hW0]; have := (Boxed.new (w.alloc (.cells #[Value.int IntKind.i64 6, Value.bool b, Value.int IntKind.i64 m, Value.float FloatKind.f64 f, Value.string tx, Value.string ty, Value.slice ai ni ci, Value.slice af nf cf] 27)) 3 (.int .i64 0)).alloc (.cells #[Value.int IntKind.i64 6, Value.bool b, Value.int IntKind.i64 m, Value.float FloatKind.f64 f, Value.string tx, Value.string ty, Value.slice ai ni ci, Value.slice af nf cf] 27); simpa using this
  have rV : W0.rangeAt (w.heap.size + 1 + 1) 0 [Value.int IntKind.i64 6, Value.bool b, Value.int IntKind.i64 m, Value.float FloatKind.f64 f, Value.string tx, Value.string ty, Value.slice ai ni ci, Value.slice af nf cf] := fun j x hx => by rw [hW0, Nat.zero_add, World.cell?_alloc_at _ _ _ _ (by simp)]; simpa using hx
  rw [← hW0]
  clear hW0
  have hsf2 := hide hsf
  clear hsf
  refine wpIn_rangeFunc_ownH (α := Kid w (kids (.mk 6 b m f tx ty its fls))) rfl (by omega) (gf := 71) (lb := #[.pointer (some ⟨w.heap.size + 1 + 1, 0, none⟩)]) rfl trivial (enters_of Try.func71 (by kernel_rfl) rfl)
    (kids_stops Fence.wide (8 - 1) trivial rfl (by omega) (w.heap.size + 1 + 1) w (.mk 6 b m f tx ty its fls) _ hv hsm W0 hB0 (by omega) rV) belowK_t (belowK_b (by omega)) (Below.refl _ _) (fun _ => rfl)
    (fun pre W => Boxed W (w.heap.size + 1) 3 (.int .i64 (((pre.map Kid.sv).map (fun p => depW p.2)).foldl max 0)) ∧ Below w.heap.size w W)
    (fun _ _ _ => False)
    (OwnFrom.and (Own.from (boxed_own _ _ _) _) (ownFrom_below (Nat.le_refl _) (by omega)))
    (fun _ _ _ _ _ hs _ _ => hs)
    ⟨bN, hB0⟩
    (fun x a' W => ∃ Bx, w.heap.size + 1 < Bx ∧ Bx < W.heap.size ∧ W.rangeAt Bx 0 x.1.2.2 ∧ a' = { tmps := #[.agg #[Value.int IntKind.i64 6, Value.bool b, Value.int IntKind.i64 m, Value.float FloatKind.f64 f, Value.string tx, Value.string ty, Value.slice ai ni ci, Value.slice af nf cf], .pointer (some ⟨w.heap.size, 0, none⟩), .int .i64 0, .pointer (some ⟨w.heap.size + 1, 0, none⟩), undef, .pointer (some ⟨Bx, 0, none⟩), .pointer (some ⟨w.heap.size, 0, none⟩), .int .i64 6, .bool true, .bool true, .pointer (some ⟨w.heap.size, 0, none⟩), .int .i64 6, .bool false, .bool false, .agg #[Value.int IntKind.i64 6, Value.bool b, Value.int IntKind.i64 m, Value.float FloatKind.f64 f, Value.string tx, Value.string ty, Value.slice ai ni ci, Value.slice af nf cf], .func (.func 71) #[] #[.pointer (some ⟨w.heap.size + 1 + 1, 0, none⟩)], .agg #[.string x.1.1.nm, .int .i64 x.1.1.ix, .bool x.1.1.it], .agg x.1.2.2.toArray, undef, undef, undef, undef, undef, undef], defers := [] })
    (fun x a' _ X Y row hs hg hr => by obtain ⟨Bx, h1, h2, h3, h4⟩ := hs; exact ⟨Bx, h1, Nat.lt_of_lt_of_le h2 hg.size, fun j u hu => cell_kept (h3 j u hu) hg (fun r e => (hr r e).2), h4⟩)
    ?assign ?body ?done ?stop
  case assign =>
    rintro l pre x W K ⟨bN1, hB1⟩ hK
    obtain ⟨⟨s, u, us⟩, hu, hm⟩ := x
    have hu' : VlC w u us := hu
    obtain ⟨ukd, ub, um, uf, utx, uty, uits, ufls⟩ := u
    unfold VlC at hu'
    obtain ⟨uai, uni, uci, uaf, unf, ucf, rfl, -⟩ := hu'
    unfold Kid.enc
    have hsf := unhide hsf2
    clear ih hck hv
    gi_wp2
    refine hK _ _ ((KeepsOthers.alloc _ _).from _) ((Below.refl _ W).alloc hB1.size _) ⟨bN1.alloc _, hB1.alloc hB1.size _⟩ ⟨W.heap.size, bN1.lt, by simp, fun j x hx => ?_, rfl⟩
    rw [Nat.zero_add, World.cell?_alloc_at _ _ _ _ rfl]
    simpa using hx
  case body =>
    rintro l pre x a' W hl ⟨r, hr⟩ ⟨bN1, hB1⟩ ⟨Bx, hBx, hBl, hrow, rfl⟩ hlt
    obtain ⟨⟨s, u, us⟩, hu, hm⟩ := x
    have IH := hide (ih (s, u) hm us W.drew (VlC.below hB1.drew _ _ hu))
    have hsum := hide (show (((pre ++ [⟨(s, u, us), hu, hm⟩] : List (Kid w (kids (.mk 6 b m f tx ty its fls)))).map Kid.sv).map (fun p => depW p.2)).foldl max 0 = max (((pre.map Kid.sv).map (fun p => depW p.2)).foldl max 0) (depW u) by rw [List.map_append, List.map_append, List.foldl_append]; rfl)
    have hu' : VlC w u us := hu
    obtain ⟨ukd, ub, um, uf, utx, uty, uits, ufls⟩ := u
    unfold VlC at hu'
    obtain ⟨uai, uni, uci, uaf, unf, ucf, rfl, -⟩ := hu'
    obtain ⟨z0, z1, z2, z3, z4, z5, z6, z7⟩ := Row8.eight hrow
    simp only [Nat.zero_add] at z1 z2 z3 z4 z5 z6 z7
    generalize ((pre.map Kid.sv).map (fun p => depW p.2)).foldl max 0 = S at *
    have cN := bN1.cell
    have fN := bN1.frozen
    have hmx : Try.prog.follows .mixedOrders = true := by kernel_rfl
    have lN := bN1.lt
    clear hrow hck ih hv
    gi_wp2
    gi_region_with_o (refine ⟨trivial, ?_⟩; gi_at_call 30; refine (CallsIn.inRound l (callsIn_wide.2 (unhide IH))).mono ?_; rintro e w2 ⟨rfl, b2⟩; have c2 : w2.cell? ⟨w.heap.size + 1, 0, none⟩ = some (.int .i64 S) := (b2.cell (p := ⟨w.heap.size + 1, 0, none⟩) lN).trans cN; have f2 : w2.frozen? ⟨w.heap.size + 1, 0, none⟩ = false := (b2.frozen (p := ⟨w.heap.size + 1, 0, none⟩) lN).trans fN)
    all_goals gi_wp2
    all_goals (try go_bits)
    all_goals
      have bW2 : Below W.heap.size W w2 := (Below.refl _ _).drew.trans b2
      have bx2 : Boxed w2 (w.heap.size + 1) 3 (.int .i64 S) := (bW2.block _ lN).trans bN1
      refine ⟨(keepsFrom_below bW2).trans ((KeepsOthers.setCell _ _ _).from _), (bW2.mono hB1.size).setCell (p := ⟨w.heap.size + 1, 0, none⟩) (Nat.le_succ _) _, ?_, (hB1.trans (bW2.mono hB1.size)).setCell (p := ⟨w.heap.size + 1, 0, none⟩) (Nat.le_succ _) _⟩
      rw [unhide hsum]
      exact bx2.set _
  case done =>
    rintro D xs W hD hxs ⟨bN1, hB1⟩ hK
    have cN := bN1.cell
    gi_wp2
    refine ⟨by simp, .inl ⟨_, _, rfl, run_takeDeferred hK, ?_⟩⟩
    refine ⟨_, results_tmp rfl _ _ _, ?_, hB1.trans (belowK_b (w := w) (Nat.le_refl _) W D _ _ (by have := hB0.size; omega) hK rfl rfl)⟩
    rw [unhide hck, ← hxs]
    rfl
  case stop =>
    rintro D c pre W _ _ h _
    exact h.elim
theorem depth0 (kd : Int) (b : Bool) (m : Int) (f : Nat) (tx ty : ByteArray) (its : Vls) (fls : Fls) (h5 : kd ≠ 5) (h6 : kd ≠ 6) : DepthAt (.mk kd b m f tx ty its fls) := by
  intro cs w hv
  unfold VlC at hv
  obtain ⟨ai, ni, ci, af, nf, cf, rfl, -⟩ := hv
  have hd := hide (show depW (.mk kd b m f tx ty its fls) = 0 by rw [depW, if_neg h5, if_neg h6])
  have q5 : (kd != 5) = true := by simpa using h5
  have q6 : (kd != 6) = true := by simpa using h6
  go_enter Try.func30, Try.ntmps30
  go_wp2
  go_ret
  exact ⟨by rw [unhide hd]; rfl, (Below.refl _ _).alloc (Nat.le_refl _) _⟩
theorem depth_ok : ∀ v : Vl, Small v → DepthAt v := by
  refine Vl.all ?_
  intro kd b n f tx ty its fls hI hF hsm
  have hs := hsm
  unfold Small at hs
  obtain ⟨-, -, -, hsI, hsF⟩ := hs
  have ih : ∀ p ∈ kids (.mk kd b n f tx ty its fls), DepthAt p.2 := mem_kids (fun v hv => hI v hv (hsI.all v hv)) (fun q hq => hF q hq (hsF.all q hq))
  by_cases h5 : kd = 5
  · subst h5; exact depth5 _ _ _ _ _ _ _ hsm ih
  · by_cases h6 : kd = 6
    · subst h6; exact depth6 _ _ _ _ _ _ _ hsm ih
    · exact depth0 _ _ _ _ _ _ _ _ h5 h6
end Go.Proofs.Ythpcpminikmcbaa.og
