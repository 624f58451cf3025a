import Derived.Test.YthpcpminikmcbaaTft10
import Derived.Test.YthpcpminikmcbaaTft8
import Derived.Test.YthpcpminikmcbaaTft3
import Derived.Test.YthpcpminikmcbaaRows
import Derived.Test.YthpcpminikmcbaaTft9
namespace Go.Proofs.Ythpcpminikmcbaa.og
open Go.ChangeShapes Go.WideShapes Go.ChangeAt Go.RowKit Go.Shelf
open vl hiding cB cFl cS cF cI cK cIt
open stp (St Pth St3 c3 c3_lt c3_gt c3_eq lexS)
set_option linter.unusedVariables false
set_option linter.unusedSimpArgs false
def mkFb {w : World} (f : Ft) (cs : List Value) (hc : FtC w f cs) : Fb w := ⟨(f, cs), hc⟩
theorem fbs_of {w : World} : ∀ (R : List Ft) (P : Nat → List Value → Prop), (∀ (k : Nat) (f : Ft), R[k]? = some f → ∃ cs, P k cs ∧ FtC w f cs) → ∃ l : List (Fb w), l.map Fb.ft = R ∧ ∀ (k : Nat) (x : Fb w), l[k]? = some x → P k x.enc
  | [], P, _ => ⟨[], rfl, fun k x h => by simp at h⟩
  | f :: R, P, h => by
    obtain ⟨cs, hp, hc⟩ := h 0 f rfl
    obtain ⟨l, hl, hk⟩ := fbs_of R (fun k => P (k + 1)) (fun k g hg => h (k + 1) g (by simpa using hg))
    refine ⟨mkFb f cs hc :: l, by rw [List.map_cons, hl]; rfl, fun k x hx => ?_⟩
    cases k with
    | zero => simp at hx; subst hx; exact hp
    | succ k => exact hk k x (by simpa using hx)
theorem FtsR.fbs {w : World} {a : Option Addr} {n c : Nat} {R : List Ft} (h : FtsR w a n c R) : ∃ l : List (Fb w), FbsAt w a n c l ∧ l.map Fb.ft = R := by
  rcases h.at_ with h0 | ⟨b, off, ha, hlt, hc⟩
  · have e : R = [] := List.length_eq_zero_iff.1 (h.len.trans h0)
    exact ⟨[], ⟨by simp [h0], h.le, h.nil, .inl h0⟩, by rw [e]; rfl⟩
  · obtain ⟨l, hl, hk⟩ := fbs_of R (fun k cs => w.rangeAt b (off + k * 3) cs) hc
    exact ⟨l, ⟨by rw [← h.len, ← hl, List.length_map], h.le, h.nil, .inr ⟨b, off, ha, hlt, hk⟩⟩, hl⟩
/-- Faults answers the union of these faults -/
def UniP (ins : List Ft) (m : Nat) (w : World) (e : Ending) (w' : World) : Prop := ∃ (aj : Option Addr) (nj cj : Nat) (R : List Ft), Rs ins R ∧ nj ≤ m ∧ e = .returned (.slice aj nj cj) ∧ FtsR w' aj nj cj R ∧ Below w.heap.size w w'
theorem uni_of {w : World} {LL : List (List (Fb w))} {ins : List Ft} {m : Nat} (hi : LL.flatten.map Fb.ft = ins) (hm : LL.flatten.length ≤ m) {e : Ending} {w' : World} (h : FltP w LL e w') : UniP ins m w e w' := by
  obtain ⟨aj, nj, cj, S, hp, hs, rfl, hR, hb⟩ := h
  refine ⟨aj, nj, cj, _, ?_, ?_, rfl, hR, hb⟩
  · rw [← hi]; exact rs_of hp hs
  · have := hR.len
    rw [List.length_map] at this
    have h1 := cpt_le S
    have h2 := hp.length_eq
    omega
theorem faults1 (w : World) (p : Nat) (a : Option Addr) (n c : Nat) (R : List Ft) (hp : p < w.heap.size) (h0 : w.cell? ⟨p, 0, none⟩ = some (.slice a n c)) (hR : FtsR w a n c R) (hn : n ≤ 1048576) : Calls Try.prog 19 #[.slice (some ⟨p, 0, none⟩) 1 1] w (UniP R n w) := by
  obtain ⟨l, hl, hm⟩ := hR.fbs
  have hf : ([l] : List (List (Fb w))).flatten = l := by simp
  refine (faults_ok w [l] (some ⟨p, 0, none⟩) 1 1 ⟨rfl, .inr ⟨p, 0, rfl, hp, fun i x hx => ?_⟩⟩ (by rw [hf, hl.len]; exact hn) (by omega)).mono (fun e w' h => uni_of (by rw [hf]; exact hm) (by rw [hf, hl.len]; exact Nat.le_refl _) h)
  cases i with
  | zero => simp at hx; subst hx; exact ⟨a, n, c, h0, hl⟩
  | succ i => simp at hx
theorem faults2 (w : World) (p : Nat) (a : Option Addr) (n c : Nat) (R : List Ft) (a' : Option Addr) (n' c' : Nat) (R' : List Ft) (hp : p < w.heap.size) (h0 : w.cell? ⟨p, 0, none⟩ = some (.slice a n c)) (h1 : w.cell? ⟨p, 1, none⟩ = some (.slice a' n' c')) (hR : FtsR w a n c R) (hR' : FtsR w a' n' c' R') (hn : n + n' ≤ 1048576) : Calls Try.prog 19 #[.slice (some ⟨p, 0, none⟩) 2 2] w (UniP (R ++ R') (n + n') w) := by
  obtain ⟨l, hl, hm⟩ := hR.fbs
  obtain ⟨l', hl', hm'⟩ := hR'.fbs
  have hf : ([l, l'] : List (List (Fb w))).flatten = l ++ l' := by simp
  have hs : (l ++ l').length = n + n' := by rw [List.length_append, hl.len, hl'.len]
  refine (faults_ok w [l, l'] (some ⟨p, 0, none⟩) 2 2 ⟨rfl, .inr ⟨p, 0, rfl, hp, fun i x hx => ?_⟩⟩ (by rw [hf, hs]; exact hn) (by omega)).mono (fun e w' h => uni_of (by rw [hf, List.map_append, hm, hm']) (by rw [hf, hs]; exact Nat.le_refl _) h)
  match i, hx with
  | 0, hx => simp at hx; subst hx; exact ⟨a, n, c, h0, hl⟩
  | 1, hx => simp at hx; subst hx; exact ⟨a', n', c', h1, hl'⟩
  | i + 2, hx => simp at hx
/-- the laws of the union -/
theorem rs_swap {A B R S : List Ft} (h : Rs (A ++ B) R) (k : Rs (B ++ A) S) : R = S := rs_unique h k (fun f => by simp only [List.mem_append]; constructor <;> (rintro ⟨g, hg, e⟩; exact ⟨g, hg.symm, e⟩))
theorem rs_self {A B R S : List Ft} (h : Rs (A ++ B) R) (k : Rs (R ++ A) S) : R = S := rs_unique h k (fun f => by
  constructor
  · rintro ⟨g, hg, e⟩
    exact ⟨can g, List.mem_append.2 (.inl ((h.mem _).2 ⟨g, hg, rfl⟩)), by rw [can_can]; exact e⟩
  · rintro ⟨g, hg, e⟩
    rcases List.mem_append.1 hg with hg | hg
    · obtain ⟨x, hx, rfl⟩ := (h.mem g).1 hg
      exact ⟨x, hx, by rw [can_can] at e; exact e⟩
    · exact ⟨g, List.mem_append.2 (.inl hg), e⟩)
theorem rs_steps {A B R P Q S : List Ft} (h : Rs (A ++ B) R) (p : Rs A P) (q : Rs B Q) (k : Rs (P ++ Q) S) : R = S := rs_unique h k (fun f => by
  constructor
  · rintro ⟨g, hg, e⟩
    rcases List.mem_append.1 hg with hg | hg
    · exact ⟨can g, List.mem_append.2 (.inl ((p.mem _).2 ⟨g, hg, rfl⟩)), by rw [can_can]; exact e⟩
    · exact ⟨can g, List.mem_append.2 (.inr ((q.mem _).2 ⟨g, hg, rfl⟩)), by rw [can_can]; exact e⟩
  · rintro ⟨g, hg, e⟩
    rcases List.mem_append.1 hg with hg | hg
    · obtain ⟨x, hx, rfl⟩ := (p.mem g).1 hg
      exact ⟨x, List.mem_append.2 (.inl hx), by rw [can_can] at e; exact e⟩
    · obtain ⟨x, hx, rfl⟩ := (q.mem g).1 hg
      exact ⟨x, List.mem_append.2 (.inr hx), by rw [can_can] at e; exact e⟩)
theorem lexS_can (f : Ft) : lexS (can f).pt f.pt = 0 ∧ lexS f.pt (can f).pt = 0 := by
  have e : (can f).pt.map pl = f.pt.map pl := by show ((f.pt.map pl).map pl) = _; rw [List.map_map]; exact List.map_congr_left (fun s _ => pl_pl s)
  constructor
  · rw [← lexS_pl, e]; exact stp.lex_self _
  · rw [← lexS_pl, e]; exact stp.lex_self _
theorem rs_has {ins R : List Ft} (h : Rs ins R) {f : Ft} (hf : f ∈ ins) : InF f R := ⟨can f, (h.mem _).2 ⟨f, hf, rfl⟩, rfl, rfl, (lexS_can f).1⟩
theorem rs_from {A B R : List Ft} (h : Rs (A ++ B) R) {f : Ft} (hf : f ∈ R) (hn : ¬ InF f A) : InF f B := by
  obtain ⟨g, hg, rfl⟩ := (h.mem f).1 hf
  rcases List.mem_append.1 hg with hg | hg
  · exact absurd ⟨g, hg, rfl, rfl, (lexS_can g).2⟩ hn
  · exact ⟨g, hg, rfl, rfl, (lexS_can g).2⟩
theorem rs_next {ins R : List Ft} (h : Rs ins R) {k : Nat} {f g : Ft} (hf : R[k]? = some f) (hg : R[k + 1]? = some g) : f.kd ≤ g.kd ∧ f ≠ g := by
  have hp := h.ris
  unfold Ris at hp
  rw [List.pairwise_iff_getElem] at hp
  obtain ⟨i1, e1⟩ := List.getElem?_eq_some_iff.1 hf
  obtain ⟨i2, e2⟩ := List.getElem?_eq_some_iff.1 hg
  have := hp k (k + 1) i1 i2 (by omega)
  rw [e1, e2] at this
  constructor
  · by_cases hk : f.kd ≤ g.kd
    · exact hk
    · have h1 : c3 f.kd g.kd = 1 := c3_gt (by omega)
      unfold cF thn at this
      rw [h1] at this
      simp at this
  · rintro rfl
    rw [cF_self] at this
    omega
end Go.Proofs.Ythpcpminikmcbaa.og
namespace Go.Proofs.Ythpcpminikmcbaa.vl
open Go.ChangeShapes Go.WideShapes Go.ChangeAt Go.RowKit
open stp (St Pth St3)
set_option linter.unusedVariables false
set_option linter.unusedSimpArgs false
theorem wpList_loadG {P : Program} {ops : Array Oper} {rest : List Oper} {op : Oper} {a : Act} {w : World} {Q : Exit → Act → World → Prop} (hw : Region.wanted op (yielded ops a.tmps) = true) (ty : TypeId) (x : Operand) (ho : op.op = .load ty x)
    (b o : Nat) (hx : a.eval x = .pointer (some ⟨b, o, none⟩)) (cs : List Value) (d : TypeDesc) (hc : w.rangeAt b o cs) (hu : P.underlying ty = some d) (hd : d.isRow = true) (hi : (P.info? ty).map (·.size) = some cs.length)
    (h : wpList P ops Q rest (a.put op.dst (.agg cs.toArray)) w) : wpList P ops Q (op :: rest) a w :=
  wpList_step fun K hK => by rw [if_pos hw]; exact wp_load_mid ty x ho b o hx cs d hc hu hd hi (hK _ _ h)
theorem SmallI.of {l : List Vl} (h : ∀ v ∈ l, Small v) : SmallI (Vls.of l) := by
  induction l with
  | nil => simp [Vls.of, SmallI]
  | cons v r ih => simp only [Vls.of, SmallI]; exact ⟨h v (List.mem_cons_self ..), ih (fun u hu => h u (List.mem_cons_of_mem _ hu))⟩
theorem SmallF.of {l : List (ByteArray × Vl)} (h : ∀ q ∈ l, Small q.2) : SmallF (Fls.of l) := by
  induction l with
  | nil => simp [Fls.of, SmallF]
  | cons v r ih => simp only [Fls.of, SmallF]; exact ⟨h v (List.mem_cons_self ..), ih (fun u hu => h u (List.mem_cons_of_mem _ hu))⟩
theorem mem_modify {α : Type} {f : α → α} : ∀ {l : List α} {i : Nat} {y : α}, y ∈ l.modify i f → y ∈ l ∨ ∃ z ∈ l, y = f z
  | [], i, y, h => by simp at h
  | a :: r, 0, y, h => by
    simp at h
    rcases h with h | h
    · exact .inr ⟨a, List.mem_cons_self .., h⟩
    · exact .inl (List.mem_cons_of_mem _ h)
  | a :: r, i + 1, y, h => by
    simp at h
    rcases h with h | h
    · exact .inl (h ▸ List.mem_cons_self ..)
    · rcases mem_modify h with h | ⟨z, hz, h⟩
      · exact .inl (List.mem_cons_of_mem _ h)
      · exact .inr ⟨z, List.mem_cons_of_mem _ hz, h⟩
theorem Small.setS {v x : Vl} {s : St} {i : Nat} (hv : Small v) (hx : Small x) : Small (setS v s i x) := by
  obtain ⟨kd, bb, ni, f, tx, ty, its, fls⟩ := v
  unfold Small at hv
  obtain ⟨h1, h2, h3, h4, h5⟩ := hv
  simp only [vl.setS]
  split
  · unfold Small
    refine ⟨by rw [Vls.list_of, List.length_set]; exact h1, h2, h3, SmallI.of (fun u hu => ?_), h5⟩
    rcases List.mem_or_eq_of_mem_set hu with h | rfl
    · exact h4.all u h
    · exact hx
  · unfold Small
    refine ⟨h1, by rw [Fls.list_of, List.length_modify]; exact h2, h3, h4, SmallF.of (fun q hq => ?_)⟩
    rcases mem_modify hq with h | ⟨z, hz, rfl⟩
    · exact h5.all q h
    · exact hx
theorem Small.setP : ∀ {ss : List St} {v x u : Vl}, Small v → Small x → setP v ss x = some u → Small u
  | [], v, x, u, hv, hx, h => by simp only [vl.setP, Option.some.injEq] at h; rw [← h]; exact hx
  | s :: r, v, x, u, hv, hx, h => by
    simp only [vl.setP] at h
    cases hc : chI v s with
    | none => rw [hc] at h; simp at h
    | some i =>
      cases hs : vl.getS v s with
      | none => rw [hc, hs] at h; simp at h
      | some y =>
        rw [hc, hs] at h
        simp only [Option.map_eq_some_iff] at h
        obtain ⟨z, hz, rfl⟩ := h
        exact Small.setS hv (Small.setP (hv.getS hs) hx hz)
theorem Small.z0 : Small z0 := by simp [vl.z0, Small, SmallI, SmallF, Vls.list, Fls.list]
theorem same_get {v u u' : Vl} {ss : List St} {a b : Bool} (h : if a = true then getP v ss = some u else getP v ss = none ∧ u = z0) (h' : if b = true then getP v ss = some u' else getP v ss = none ∧ u' = z0) (hv : Small v) : a = b ∧ u = u' ∧ Small u := by
  cases a <;> cases b
  · simp at h h'
    exact ⟨rfl, h.2.trans h'.2.symm, h.2 ▸ Small.z0⟩
  · simp at h h'
    rw [h.1] at h'; cases h'
  · simp at h h'
    rw [h'.1] at h; cases h
  · simp at h h'
    exact ⟨rfl, Option.some.inj (h.symm.trans h'), hv.getP h⟩
theorem same_set {v x u u' : Vl} {ss : List St} {a b : Bool} (h : if a = true then setP v ss x = some u else getP v ss = none ∧ u = z0) (h' : if b = true then setP v ss x = some u' else getP v ss = none ∧ u' = z0) (hv : Small v) (hx : Small x) : a = b ∧ u = u' ∧ Small u := by
  cases a <;> cases b
  · simp at h h'
    exact ⟨rfl, h.2.trans h'.2.symm, h.2 ▸ Small.z0⟩
  · simp at h h'
    rw [setP_none x h.1] at h'; cases h'
  · simp at h h'
    rw [setP_none x h'.1] at h; cases h
  · simp at h h'
    exact ⟨rfl, Option.some.inj (h.symm.trans h'), Small.setP hv hx h⟩
end Go.Proofs.Ythpcpminikmcbaa.vl
namespace Go.Proofs.Ythpcpminikmcbaa.vl
open Go.ChangeShapes Go.WideShapes Go.ChangeAt Go.RowKit
set_option linter.unusedVariables false
set_option linter.unusedSimpArgs false
theorem vls_ofQ (Q : Vl → Prop) (w : World) (b : Nat) : ∀ (n off : Nat), (∀ i, i < n → ∃ cs v, Row8 w b (off + i * 8) cs ∧ VlC w v cs ∧ Q v) → ∃ l, VlsAt w l (some ⟨b, off, none⟩) n ∧ ∀ v ∈ l.list, Q v
  | 0, off, _ => ⟨.nil, by unfold VlsAt; rfl, by simp [Vls.list]⟩
  | n + 1, off, h => by
    obtain ⟨cs, v, h1, h2, hq⟩ := h 0 (by omega)
    obtain ⟨l, hl, hlq⟩ := vls_ofQ Q w b n (off + 8) (fun i hi => by
      obtain ⟨cs, v, h1, h2⟩ := h (i + 1) (by omega)
      exact ⟨cs, v, by rw [show off + 8 + i * 8 = off + (i + 1) * 8 by omega]; exact h1, h2⟩)
    refine ⟨.cons v l, ?_, fun u hu => ?_⟩
    · unfold VlsAt
      exact ⟨b, off, n, cs, rfl, rfl, by simpa using h1, h2, hl⟩
    · simp only [Vls.list, List.mem_cons] at hu
      rcases hu with rfl | hu
      · exact hq
      · exact hlq u hu
theorem fls_ofQ (Q : Vl → Prop) (w : World) (b : Nat) : ∀ (n off : Nat), (∀ i, i < n → ∃ nm cs v, w.cell? ⟨b, off + i * 9, none⟩ = some (.string nm) ∧ nm.size ≤ maxLen ∧ Row8 w b (off + i * 9 + 1) cs ∧ VlC w v cs ∧ Q v) → ∃ l, FlsAt w l (some ⟨b, off, none⟩) n ∧ ∀ q ∈ l.list, Q q.2
  | 0, off, _ => ⟨.nil, by unfold FlsAt; rfl, by simp [Fls.list]⟩
  | n + 1, off, h => by
    obtain ⟨nm, cs, v, h0, hz, h1, h2, hq⟩ := h 0 (by omega)
    obtain ⟨l, hl, hlq⟩ := fls_ofQ Q w b n (off + 9) (fun i hi => by
      obtain ⟨nm, cs, v, h0, hz, h1, h2⟩ := h (i + 1) (by omega)
      exact ⟨nm, cs, v, by rw [show off + 9 + i * 9 = off + (i + 1) * 9 by omega]; exact h0, hz, by rw [show off + 9 + i * 9 = off + (i + 1) * 9 by omega]; exact h1, h2⟩)
    refine ⟨.cons nm v l, ?_, fun u hu => ?_⟩
    · unfold FlsAt
      exact ⟨b, off, n, cs, rfl, rfl, by simpa using h0, hz, by simpa using h1, h2, hl⟩
    · simp only [Fls.list, List.mem_cons] at hu
      rcases hu with rfl | hu
      · exact hq
      · exact hlq u hu
theorem weights_all {H : Type} {P : Program} {e : TypeId} {d : DataW H} {n : Nat} (hn : n ∈ d.weights P e) : ∀ {l : List (DataW H)}, d ∈ l → n ∈ DataW.weightsAll P e l
  | x :: r, h => by
    simp only [DataW.weightsAll, List.mem_append]
    rcases List.mem_cons.1 h with rfl | h
    · exact .inl hn
    · exact .inr (weights_all hn h)
theorem SmallI.mk : ∀ {l : Vls}, (∀ v ∈ l.list, Small v) → SmallI l := fun {l} h => by have := SmallI.of h; rwa [Vls.of_list] at this
theorem SmallF.mk : ∀ {l : Fls}, (∀ q ∈ l.list, Small q.2) → SmallF l := fun {l} h => by have := SmallF.of h; rwa [Fls.of_list] at this
section
variable {H : Type} {enc : TypeId × Value → H} {w : World} {base : Nat} {held : Bool}
theorem struct8w {P : Program} {spare : Nat → Bool} {t : TypeId} {f0 f1 f2 f3 f4 f5 f6 f7 : Field} {fuel : Nat} {cs : List Value} {x : DataW H × List MemPlace} (ht : P.underlying t = some (.struct #[f0, f1, f2, f3, f4, f5, f6, f7])) (h : DataW.trod enc P w base spare held fuel t cs = some x) :
    ∃ x0 x1 x2 x3 x4 x5 x6 x7 n, fuel = n + 1 ∧ x.1 = .agg [x0.1, x1.1, x2.1, x3.1, x4.1, x5.1, x6.1, x7.1] ∧ cs.length = P.cellsOf t ∧
      DataW.trod enc P w base spare held n f0.type ((cs.drop f0.offset).take (P.cellsOf f0.type)) = some x0 ∧
      DataW.trod enc P w base spare held n f1.type ((cs.drop f1.offset).take (P.cellsOf f1.type)) = some x1 ∧
      DataW.trod enc P w base spare held n f2.type ((cs.drop f2.offset).take (P.cellsOf f2.type)) = some x2 ∧
      DataW.trod enc P w base spare held n f3.type ((cs.drop f3.offset).take (P.cellsOf f3.type)) = some x3 ∧
      DataW.trod enc P w base spare held n f4.type ((cs.drop f4.offset).take (P.cellsOf f4.type)) = some x4 ∧
      DataW.trod enc P w base spare held n f5.type ((cs.drop f5.offset).take (P.cellsOf f5.type)) = some x5 ∧
      DataW.trod enc P w base spare held n f6.type ((cs.drop f6.offset).take (P.cellsOf f6.type)) = some x6 ∧
      DataW.trod enc P w base spare held n f7.type ((cs.drop f7.offset).take (P.cellsOf f7.type)) = some x7 := by
  obtain ⟨xs, n, hfu, hx, hl, hlen, hf⟩ := DataW.trod_struct ht h
  match xs, hlen with
  | [x0, x1, x2, x3, x4, x5, x6, x7], _ => exact ⟨x0, x1, x2, x3, x4, x5, x6, x7, n, hfu, by rw [hx]; rfl, hl, by simpa using hf 0 f0 rfl, by simpa using hf 1 f1 rfl, by simpa using hf 2 f2 rfl, by simpa using hf 3 f3 rfl, by simpa using hf 4 f4 rfl, by simpa using hf 5 f5 rfl, by simpa using hf 6 f6 rfl, by simpa using hf 7 f7 rfl⟩
theorem struct2w {P : Program} {spare : Nat → Bool} {t : TypeId} {f0 f1 : Field} {fuel : Nat} {cs : List Value} {x : DataW H × List MemPlace} (ht : P.underlying t = some (.struct #[f0, f1])) (h : DataW.trod enc P w base spare held fuel t cs = some x) :
    ∃ x0 x1 n, fuel = n + 1 ∧ x.1 = .agg [x0.1, x1.1] ∧ cs.length = P.cellsOf t ∧
      DataW.trod enc P w base spare held n f0.type ((cs.drop f0.offset).take (P.cellsOf f0.type)) = some x0 ∧
      DataW.trod enc P w base spare held n f1.type ((cs.drop f1.offset).take (P.cellsOf f1.type)) = some x1 := by
  obtain ⟨xs, n, hfu, hx, hl, hlen, hf⟩ := DataW.trod_struct ht h
  match xs, hlen with
  | [x0, x1], _ => exact ⟨x0, x1, n, hfu, by rw [hx]; rfl, hl, by simpa using hf 0 f0 rfl, by simpa using hf 1 f1 rfl⟩
theorem bytV : Try.prog.bytesOf 27 = 112 := by kernel_rfl
theorem bytM : Try.prog.bytesOf 69 = 128 := by kernel_rfl
theorem val_ofS : ∀ (fuel : Nat) (cs : List Value) (x : DataW H × List MemPlace), DataW.trod enc Try.prog w base (fun _ => true) held fuel 27 cs = some x → (∀ n, n ∈ x.1.weights Try.prog 27 → n ≤ reachBytes) → ∃ v, VlC w v cs ∧ Small v := by
  intro fuel
  induction fuel using Nat.strongRecOn with
  | _ fuel ih =>
    intro cs x h hN
    obtain ⟨x0, x1, x2, x3, x4, x5, x6, x7, n, hfu, hxd, hl, f0, f1, f2, f3, f4, f5, f6, f7⟩ := struct8w Try.underlying27 h
    have hN6 : ∀ q, q ∈ x6.1.weights Try.prog 24 → q ≤ reachBytes := fun q hq => hN q (by
      rw [hxd]
      simp only [DataW.weights, Try.underlying27]
      exact DataW.weights_mem_each (j := 6) rfl rfl q hq)
    have hN7 : ∀ q, q ∈ x7.1.weights Try.prog 25 → q ≤ reachBytes := fun q hq => hN q (by
      rw [hxd]
      simp only [DataW.weights, Try.underlying27]
      exact DataW.weights_mem_each (j := 7) rfl rfl q hq)
    rw [cellsV] at hl
    obtain ⟨c0, c1, c2, c3, c4, c5, c6, c7, rfl⟩ := list_eight hl
    simp only [cK, cB, cI, cF, cS, cIt, cFl, List.drop_zero, List.drop_succ_cons, List.take_succ_cons, List.take_zero] at f0 f1 f2 f3 f4 f5 f6 f7
    obtain ⟨kd, e0, _, w0⟩ := DataW.trod_int Try.underlying22 f0
    obtain ⟨b, e1, _⟩ := DataW.trod_bool Try.underlying4 f1
    obtain ⟨m, e2, _, w2⟩ := DataW.trod_int Try.underlying2 f2
    obtain ⟨fl, e3, _, w3⟩ := trod_float Try.underlying23 f3
    obtain ⟨tx, e4, _, w4⟩ := DataW.trod_string Try.underlying9 f4
    obtain ⟨ty, e5, _, w5⟩ := DataW.trod_string Try.underlying9 f5
    simp only [List.cons.injEq, and_true] at e0 e1 e2 e3 e4 e5
    subst e0 e1 e2 e3 e4 e5
    have hI : ∃ (ai : Option Addr) (ni ci : Nat) (l : Vls), c6 = .slice ai ni ci ∧ VlsAt w l ai ni ∧ ni ≤ ci ∧ (ai = none → ci = 0) ∧ ci ≤ maxLen ∧ ni ≤ 1256584717458 ∧ ∀ v ∈ l.list, Small v := by
      rcases DataW.trod_slice Try.underlying24 f6 with ⟨hc, _⟩ | ⟨a, len, cap, elems, rest, k, hk, hc, hxs, _, hlc, hcm, hel, hcell, _, _⟩
      · simp at hc
        exact ⟨none, 0, 0, .nil, hc, by unfold VlsAt; rfl, Nat.le_refl _, fun _ => rfl, Nat.zero_le _, Nat.zero_le _, by simp [Vls.list]⟩
      · simp at hc
        have hw6 : (elems.length + rest.length) * 112 ≤ reachBytes := hN6 _ (by
          rw [hxs]
          simp only [DataW.weights, Try.underlying24]
          refine List.mem_cons.2 (.inl ?_)
          rw [bytV]
          simp)
        have hlen6 : len ≤ 1256584717458 := by unfold reachBytes at hw6; omega
        have key : ∀ i, i < len → ∃ cs v, w.cells? base (a.add (i * 8)) 8 = some cs ∧ VlC w v cs ∧ Small v := by
          intro i hi
          have h1 := hcell i hi
          rw [cellsV, List.getElem?_eq_getElem (show i < elems.length by omega), Option.bind_eq_some_iff] at h1
          obtain ⟨cs, h2, h3⟩ := h1
          obtain ⟨v, hv, hsv⟩ := ih k (by omega) cs _ h3 (fun q hq => hN6 q (by
            rw [hxs]
            simp only [DataW.weights, Try.underlying24]
            exact List.mem_cons_of_mem _ (List.mem_append_left _ (weights_all hq (List.mem_map.2 ⟨_, List.getElem_mem (show i < elems.length by omega), rfl⟩)))))
          exact ⟨cs, v, h2, hv, hsv⟩
        by_cases h0 : len = 0
        · subst h0
          exact ⟨some a, 0, cap, .nil, hc, by unfold VlsAt; rfl, by omega, fun e => (by cases e), hcm, by omega, by simp [Vls.list]⟩
        · have hsp : a.spot = none := by
            obtain ⟨cs, v, h1, _, _⟩ := key 0 (by omega)
            have := spot_of h1 (by omega)
            simpa [Addr.add] using this
          obtain ⟨bb, off, spot⟩ := a
          simp only at hsp
          subst hsp
          obtain ⟨l, hl, hlq⟩ := vls_ofQ Small w bb len off (fun i hi => by
            obtain ⟨cs, v, h1, h2, h3⟩ := key i hi
            rw [Addr.add_lit] at h1
            exact ⟨cs, v, (row_of h1 rfl).2, h2, h3⟩)
          exact ⟨some ⟨bb, off, none⟩, len, cap, l, hc, hl, hlc, fun e => (by cases e), hcm, hlen6, hlq⟩
    have hM : ∃ (ai : Option Addr) (ni ci : Nat) (l : Fls), c7 = .slice ai ni ci ∧ FlsAt w l ai ni ∧ ni ≤ ci ∧ (ai = none → ci = 0) ∧ ci ≤ maxLen ∧ ni ≤ 1099511627776 ∧ ∀ q ∈ l.list, Small q.2 := by
      rcases DataW.trod_slice Try.underlying25 f7 with ⟨hc, _⟩ | ⟨a, len, cap, elems, rest, k, hk, hc, hxs, _, hlc, hcm, hel, hcell, _, _⟩
      · simp at hc
        exact ⟨none, 0, 0, .nil, hc, by unfold FlsAt; rfl, Nat.le_refl _, fun _ => rfl, Nat.zero_le _, Nat.zero_le _, by simp [Fls.list]⟩
      · simp at hc
        have hw7 : (elems.length + rest.length) * 128 ≤ reachBytes := hN7 _ (by
          rw [hxs]
          simp only [DataW.weights, Try.underlying25]
          refine List.mem_cons.2 (.inl ?_)
          rw [bytM]
          simp)
        have hlen7 : len ≤ 1099511627776 := by unfold reachBytes at hw7; omega
        have key : ∀ i, i < len → ∃ nm cs v, w.cells? base (a.add (i * 9)) 9 = some (.string nm :: cs) ∧ nm.size ≤ maxLen ∧ VlC w v cs ∧ Small v := by
          intro i hi
          have h1 := hcell i hi
          rw [cellsM, List.getElem?_eq_getElem (show i < elems.length by omega), Option.bind_eq_some_iff] at h1
          obtain ⟨cs, h2, h3⟩ := h1
          obtain ⟨y0, y1, q, hq, hyd, hl9, g0, g1⟩ := struct2w Try.underlying69 h3
          rw [cellsM] at hl9
          obtain ⟨c, r, rfl, hr⟩ := list_nine hl9
          simp only [cS, cellsV, List.drop_zero, List.drop_succ_cons, List.take_succ_cons, List.take_zero] at g0 g1
          rw [List.take_of_length_le (by omega)] at g1
          obtain ⟨nm, e, _, hz⟩ := DataW.trod_string Try.underlying9 g0
          simp only [List.cons.injEq, and_true] at e
          subst e
          obtain ⟨v, hv, hsv⟩ := ih q (by omega) r _ g1 (fun m hm => hN7 m (by
            rw [hxs]
            simp only [DataW.weights, Try.underlying25]
            refine List.mem_cons_of_mem _ (List.mem_append_left _ (weights_all (d := (elems[i]'(by omega)).1) ?_ (List.mem_map.2 ⟨_, List.getElem_mem (show i < elems.length by omega), rfl⟩)))
            rw [hyd]
            simp only [DataW.weights, Try.underlying69]
            exact DataW.weights_mem_each (j := 1) rfl rfl m hm))
          exact ⟨nm, r, v, h2, hz, hv, hsv⟩
        by_cases h0 : len = 0
        · subst h0
          exact ⟨some a, 0, cap, .nil, hc, by unfold FlsAt; rfl, by omega, fun e => (by cases e), hcm, by omega, by simp [Fls.list]⟩
        · have hsp : a.spot = none := by
            obtain ⟨nm, cs, v, h1, _⟩ := key 0 (by omega)
            have := spot_of h1 (by omega)
            simpa [Addr.add] using this
          obtain ⟨bb, off, spot⟩ := a
          simp only at hsp
          subst hsp
          obtain ⟨l, hl, hlq⟩ := fls_ofQ Small w bb len off (fun i hi => by
            obtain ⟨nm, cs, v, h1, hz, h2, h3⟩ := key i hi
            rw [Addr.add_lit] at h1
            have hrow : Row8 w bb (off + i * 9) (.string nm :: cs) := (row_of h1 rfl).2
            refine ⟨nm, cs, v, by simpa using hrow 0 (.string nm) rfl, hz, fun j u hu => ?_, h2, h3⟩
            have := hrow (j + 1) u (by simpa using hu)
            rw [show off + i * 9 + 1 + j = off + i * 9 + (j + 1) by omega]
            exact this)
          exact ⟨some ⟨bb, off, none⟩, len, cap, l, hc, hl, hlc, fun e => (by cases e), hcm, hlen7, hlq⟩
    obtain ⟨ai, ni, ci, its, rfl, hI1, hI2, hI3, hI4, hI5, hI6⟩ := hI
    obtain ⟨af, nf, cf, fls, rfl, hM1, hM2, hM3, hM4, hM5, hM6⟩ := hM
    refine ⟨.mk kd b m fl tx ty its fls, ?_, ?_⟩
    rotate_left
    · unfold Small
      exact ⟨by rw [VlsAt.len its _ _ hI1]; exact hI5, by rw [FlsAt.len fls _ _ hM1]; exact hM5, by simpa [Lit.wf] using w3, SmallI.mk hI6, SmallF.mk hM6⟩
    unfold VlC
    exact ⟨ai, ni, ci, af, nf, cf, rfl, hI1, hM1, hI2, hM2, hI3, hM3, w0, w2, w4, w5, hI4, hM4⟩
end
theorem path_cap {H : Type} {enc : TypeId × Value → H} {w : World} {base : Nat} {held : Bool} {fuel : Nat} {a0 : Option Addr} {len0 cap0 : Nat} {d : DataW H} {p : List MemPlace}
    (h : DataW.trod enc Try.prog w base (fun _ => true) held fuel 29 [.slice a0 len0 cap0] = some (d, p)) (hN : ∀ n, n ∈ d.weights Try.prog 29 → n ≤ reachBytes) : cap0 ≤ 4611686018427387903 := by
  have hb : Try.prog.bytesOf 34 = 32 := by kernel_rfl
  rcases DataW.trod_slice Try.underlying29 h with ⟨hc, _⟩ | ⟨a, len, cap, elems, rest, k, hk, hc, hxs, _, hlc, hcm, hel, hcell, hsp, _⟩
  · simp at hc
    omega
  · simp at hc
    obtain ⟨rfl, rfl, rfl⟩ := hc
    simp only [Prod.mk.injEq] at hxs
    have hr := (hsp rfl).1
    have := hN ((elems.length + rest.length) * 32) (by
      rw [hxs.1]
      simp only [DataW.weights, Try.underlying29]
      refine List.mem_cons.2 (.inl ?_)
      rw [hb]
      simp)
    unfold reachBytes at this
    omega
end Go.Proofs.Ythpcpminikmcbaa.vl
namespace Go.Proofs.Ythpcpminikmcbaa.vl
open Go.ChangeShapes Go.WideShapes Go.ChangeAt Go.RowKit
set_option linter.unusedVariables false
set_option linter.unusedSimpArgs false
theorem bk_pos {H : Type} (d : DataW H) : 1 ≤ Rows.uptoBulk d := by
  cases d with
  | lit l => cases l <;> simp [Rows.uptoBulk]
  | _ => simp [Rows.uptoBulk]
theorem bk_mem {H : Type} {d : DataW H} : ∀ {l : List (DataW H)}, d ∈ l → Rows.uptoBulk d ≤ Rows.uptoBulkAll l
  | x :: r, h => by
    simp only [Rows.uptoBulkAll]
    rcases List.mem_cons.1 h with e | e
    · subst e; omega
    · have := bk_mem e; omega
theorem bk_len {H : Type} : ∀ (l : List (DataW H)), l.length ≤ Rows.uptoBulkAll l
  | [] => by simp [Rows.uptoBulkAll]
  | x :: r => by
    have := bk_len r
    have := bk_pos x
    simp only [Rows.uptoBulkAll, List.length_cons]
    omega
theorem bk_slice {H : Type} (e s : List (DataW H)) : e.length + s.length ≤ Rows.uptoBulk (.slice e s) := by
  have := bk_len e
  have := bk_len s
  simp only [Rows.uptoBulk]
  omega
theorem bk_elems {H : Type} (e s : List (DataW H)) : Rows.uptoBulkAll e ≤ Rows.uptoBulk (.slice e s) := by
  simp only [Rows.uptoBulk]
  omega
theorem bk_le {H : Type} {l : List (DataW H)} (hk : Rows.uptoSmall H l = true) : Rows.uptoBulkAll l ≤ 1048576 := of_decide_eq_true hk
/-- not deeper than so much -/
def HtLe : Nat → Vl → Prop
  | 0, _ => False
  | n + 1, .mk _ _ _ _ _ _ its fls => (∀ v ∈ its.list, HtLe n v) ∧ ∀ q ∈ fls.list, HtLe n q.2
theorem HtLe.mono : ∀ {m n : Nat} {v : Vl}, HtLe m v → m ≤ n → HtLe n v
  | 0, n, v, h, _ => h.elim
  | m + 1, 0, v, h, hmn => by omega
  | m + 1, n + 1, .mk _ _ _ _ _ _ its fls, h, hmn => ⟨fun v hv => (h.1 v hv).mono (by omega), fun q hq => (h.2 q hq).mono (by omega)⟩
theorem fmax_le (N : Int) : ∀ (l : List Int) (a : Int), 0 ≤ a → a ≤ N → (∀ x ∈ l, 0 ≤ x ∧ x ≤ N) → 0 ≤ l.foldl max a ∧ l.foldl max a ≤ N
  | [], a, h0, h1, _ => ⟨h0, h1⟩
  | x :: l, a, h0, h1, h => fmax_le N l (max a x) (by omega) (by have := (h x (List.mem_cons_self ..)).2; omega) (fun y hy => h y (List.mem_cons_of_mem _ hy))
theorem dep_le : ∀ (n : Nat) (v : Vl), HtLe n v → n ≤ 1048577 → 0 ≤ og.depW v ∧ og.depW v ≤ n
  | 0, v, h, _ => h.elim
  | n + 1, .mk kd b m f tx ty its fls, h, hn => by
    rw [og.depW, og.mxI_fold, og.mxF_fold]
    have h1 := fmax_le n (its.list.map og.depW) 0 (by omega) (by omega) (fun x hx => by
      obtain ⟨v, hv, rfl⟩ := List.mem_map.1 hx
      exact dep_le n v (h.1 v hv) (by omega))
    have h2 := fmax_le n (fls.list.map (fun q => og.depW q.2)) 0 (by omega) (by omega) (fun x hx => by
      obtain ⟨q, hq, rfl⟩ := List.mem_map.1 hx
      exact dep_le n q.2 (h.2 q hq) (by omega))
    split
    · unfold wrap64; omega
    · split
      · unfold wrap64; omega
      · omega
section
variable {H : Type} {enc : TypeId × Value → H} {w : World} {base : Nat} {held : Bool}
theorem val_ofB : ∀ (fuel : Nat) (cs : List Value) (x : DataW H × List MemPlace), DataW.trod enc Try.prog w base (fun _ => true) held fuel 27 cs = some x → Rows.uptoBulk x.1 ≤ 1048576 → ∃ v, VlC w v cs ∧ Small v ∧ HtLe (Rows.uptoBulk x.1) v := by
  intro fuel
  induction fuel using Nat.strongRecOn with
  | _ fuel ih =>
    intro cs x h hN
    obtain ⟨x0, x1, x2, x3, x4, x5, x6, x7, n, hfu, hxd, hl, f0, f1, f2, f3, f4, f5, f6, f7⟩ := struct8w Try.underlying27 h
    have hN6 : Rows.uptoBulk x6.1 + 1 ≤ Rows.uptoBulk x.1 := by
      rw [hxd]
      simp only [Rows.uptoBulk, Rows.uptoBulkAll]
      omega
    have hN7 : Rows.uptoBulk x7.1 + 1 ≤ Rows.uptoBulk x.1 := by
      rw [hxd]
      simp only [Rows.uptoBulk, Rows.uptoBulkAll]
      omega
    obtain ⟨N, eN⟩ : ∃ N, Rows.uptoBulk x.1 = N + 1 := ⟨Rows.uptoBulk x.1 - 1, by omega⟩
    rw [eN] at hN hN6 hN7 ⊢
    rw [cellsV] at hl
    obtain ⟨c0, c1, c2, c3, c4, c5, c6, c7, rfl⟩ := list_eight hl
    simp only [cK, cB, cI, cF, cS, cIt, cFl, List.drop_zero, List.drop_succ_cons, List.take_succ_cons, List.take_zero] at f0 f1 f2 f3 f4 f5 f6 f7
    obtain ⟨kd, e0, _, w0⟩ := DataW.trod_int Try.underlying22 f0
    obtain ⟨b, e1, _⟩ := DataW.trod_bool Try.underlying4 f1
    obtain ⟨m, e2, _, w2⟩ := DataW.trod_int Try.underlying2 f2
    obtain ⟨fl, e3, _, w3⟩ := trod_float Try.underlying23 f3
    obtain ⟨tx, e4, _, w4⟩ := DataW.trod_string Try.underlying9 f4
    obtain ⟨ty, e5, _, w5⟩ := DataW.trod_string Try.underlying9 f5
    simp only [List.cons.injEq, and_true] at e0 e1 e2 e3 e4 e5
    subst e0 e1 e2 e3 e4 e5
    have hI : ∃ (ai : Option Addr) (ni ci : Nat) (l : Vls), c6 = .slice ai ni ci ∧ VlsAt w l ai ni ∧ ni ≤ ci ∧ (ai = none → ci = 0) ∧ ci ≤ maxLen ∧ ni ≤ 1256584717458 ∧ ∀ v ∈ l.list, Small v ∧ HtLe N v := by
      rcases DataW.trod_slice Try.underlying24 f6 with ⟨hc, _⟩ | ⟨a, len, cap, elems, rest, k, hk, hc, hxs, _, hlc, hcm, hel, hcell, _, _⟩
      · simp at hc
        exact ⟨none, 0, 0, .nil, hc, by unfold VlsAt; rfl, Nat.le_refl _, fun _ => rfl, Nat.zero_le _, Nat.zero_le _, by simp [Vls.list]⟩
      · simp at hc
        have hxs1 : x6.1 = .slice (elems.map (·.1)) (rest.map (·.1)) := by rw [hxs]
        rw [hxs1] at hN6
        have hbl := bk_slice (elems.map (·.1)) (rest.map (·.1))
        have hbe := bk_elems (elems.map (·.1)) (rest.map (·.1))
        rw [List.length_map, List.length_map] at hbl
        have hlen6 : len ≤ 1256584717458 := by omega
        have key : ∀ i, i < len → ∃ cs v, w.cells? base (a.add (i * 8)) 8 = some cs ∧ VlC w v cs ∧ (Small v ∧ HtLe N v) := by
          intro i hi
          have h1 := hcell i hi
          rw [cellsV, List.getElem?_eq_getElem (show i < elems.length by omega), Option.bind_eq_some_iff] at h1
          obtain ⟨cs, h2, h3⟩ := h1
          have hbm := bk_mem (List.mem_map.2 ⟨_, List.getElem_mem (show i < elems.length by omega), rfl⟩ : (elems[i]'(by omega)).1 ∈ elems.map (·.1))
          obtain ⟨v, hv, hsv, hht⟩ := ih k (by omega) cs _ h3 (by omega)
          exact ⟨cs, v, h2, hv, hsv, hht.mono (by omega)⟩
        by_cases h0 : len = 0
        · subst h0
          exact ⟨some a, 0, cap, .nil, hc, by unfold VlsAt; rfl, by omega, fun e => (by cases e), hcm, by omega, by simp [Vls.list]⟩
        · have hsp : a.spot = none := by
            obtain ⟨cs, v, h1, _, _⟩ := key 0 (by omega)
            have := spot_of h1 (by omega)
            simpa [Addr.add] using this
          obtain ⟨bb, off, spot⟩ := a
          simp only at hsp
          subst hsp
          obtain ⟨l, hl, hlq⟩ := vls_ofQ (fun v => Small v ∧ HtLe N v) w bb len off (fun i hi => by
            obtain ⟨cs, v, h1, h2, h3⟩ := key i hi
            rw [Addr.add_lit] at h1
            exact ⟨cs, v, (row_of h1 rfl).2, h2, h3⟩)
          exact ⟨some ⟨bb, off, none⟩, len, cap, l, hc, hl, hlc, fun e => (by cases e), hcm, hlen6, hlq⟩
    have hM : ∃ (ai : Option Addr) (ni ci : Nat) (l : Fls), c7 = .slice ai ni ci ∧ FlsAt w l ai ni ∧ ni ≤ ci ∧ (ai = none → ci = 0) ∧ ci ≤ maxLen ∧ ni ≤ 1099511627776 ∧ ∀ q ∈ l.list, Small q.2 ∧ HtLe N q.2 := by
      rcases DataW.trod_slice Try.underlying25 f7 with ⟨hc, _⟩ | ⟨a, len, cap, elems, rest, k, hk, hc, hxs, _, hlc, hcm, hel, hcell, _, _⟩
      · simp at hc
        exact ⟨none, 0, 0, .nil, hc, by unfold FlsAt; rfl, Nat.le_refl _, fun _ => rfl, Nat.zero_le _, Nat.zero_le _, by simp [Fls.list]⟩
      · simp at hc
        have hxs1 : x7.1 = .slice (elems.map (·.1)) (rest.map (·.1)) := by rw [hxs]
        rw [hxs1] at hN7
        have hbl := bk_slice (elems.map (·.1)) (rest.map (·.1))
        have hbe := bk_elems (elems.map (·.1)) (rest.map (·.1))
        rw [List.length_map, List.length_map] at hbl
        have hlen7 : len ≤ 1099511627776 := by omega
        have key : ∀ i, i < len → ∃ nm cs v, w.cells? base (a.add (i * 9)) 9 = some (.string nm :: cs) ∧ nm.size ≤ maxLen ∧ VlC w v cs ∧ (Small v ∧ HtLe N v) := by
          intro i hi
          have h1 := hcell i hi
          rw [cellsM, List.getElem?_eq_getElem (show i < elems.length by omega), Option.bind_eq_some_iff] at h1
          obtain ⟨cs, h2, h3⟩ := h1
          obtain ⟨y0, y1, q, hq, hyd, hl9, g0, g1⟩ := struct2w Try.underlying69 h3
          rw [cellsM] at hl9
          obtain ⟨c, r, rfl, hr⟩ := list_nine hl9
          simp only [cS, cellsV, List.drop_zero, List.drop_succ_cons, List.take_succ_cons, List.take_zero] at g0 g1
          rw [List.take_of_length_le (by omega)] at g1
          obtain ⟨nm, e, _, hz⟩ := DataW.trod_string Try.underlying9 g0
          simp only [List.cons.injEq, and_true] at e
          subst e
          have hbm := bk_mem (List.mem_map.2 ⟨_, List.getElem_mem (show i < elems.length by omega), rfl⟩ : (elems[i]'(by omega)).1 ∈ elems.map (·.1))
          have hby : Rows.uptoBulk y1.1 ≤ Rows.uptoBulk (elems[i]'(by omega)).1 := by
            rw [hyd]
            simp only [Rows.uptoBulk, Rows.uptoBulkAll]
            omega
          obtain ⟨v, hv, hsv, hht⟩ := ih q (by omega) r _ g1 (by omega)
          exact ⟨nm, r, v, h2, hz, hv, hsv, hht.mono (by omega)⟩
        by_cases h0 : len = 0
        · subst h0
          exact ⟨some a, 0, cap, .nil, hc, by unfold FlsAt; rfl, by omega, fun e => (by cases e), hcm, by omega, by simp [Fls.list]⟩
        · have hsp : a.spot = none := by
            obtain ⟨nm, cs, v, h1, _⟩ := key 0 (by omega)
            have := spot_of h1 (by omega)
            simpa [Addr.add] using this
          obtain ⟨bb, off, spot⟩ := a
          simp only at hsp
          subst hsp
          obtain ⟨l, hl, hlq⟩ := fls_ofQ (fun v => Small v ∧ HtLe N v) w bb len off (fun i hi => by
            obtain ⟨nm, cs, v, h1, hz, h2, h3⟩ := key i hi
            rw [Addr.add_lit] at h1
            have hrow : Row8 w bb (off + i * 9) (.string nm :: cs) := (row_of h1 rfl).2
            refine ⟨nm, cs, v, by simpa using hrow 0 (.string nm) rfl, hz, fun j u hu => ?_, h2, h3⟩
            have := hrow (j + 1) u (by simpa using hu)
            rw [show off + i * 9 + 1 + j = off + i * 9 + (j + 1) by omega]
            exact this)
          exact ⟨some ⟨bb, off, none⟩, len, cap, l, hc, hl, hlc, fun e => (by cases e), hcm, hlen7, hlq⟩
    obtain ⟨ai, ni, ci, its, rfl, hI1, hI2, hI3, hI4, hI5, hI6⟩ := hI
    obtain ⟨af, nf, cf, fls, rfl, hM1, hM2, hM3, hM4, hM5, hM6⟩ := hM
    refine ⟨.mk kd b m fl tx ty its fls, ?_, ?_, ?_⟩
    rotate_left
    · unfold Small
      exact ⟨by rw [VlsAt.len its _ _ hI1]; exact hI5, by rw [FlsAt.len fls _ _ hM1]; exact hM5, by simpa [Lit.wf] using w3, SmallI.mk (fun v hv => (hI6 v hv).1), SmallF.mk (fun q hq => (hM6 q hq).1)⟩
    · exact ⟨fun v hv => (hI6 v hv).2, fun q hq => (hM6 q hq).2⟩
    unfold VlC
    exact ⟨ai, ni, ci, af, nf, cf, rfl, hI1, hM1, hI2, hM2, hI3, hM3, w0, w2, w4, w5, hI4, hM4⟩
end
end Go.Proofs.Ythpcpminikmcbaa.vl
namespace Go.Proofs.Ythpcpminikmcbaa.og
open Go.ChangeShapes Go.WideShapes Go.ChangeAt Go.RowKit
open vl (struct2w row_of spot_of bk_slice bk_elems bk_mem)
open stp (St Pth path_of list_three)
set_option linter.unusedVariables false
set_option linter.unusedSimpArgs false
theorem pick_all {α : Type} : ∀ (n : Nat) (P : Nat → α → Prop), (∀ i, i < n → ∃ x, P i x) → ∃ l : List α, l.length = n ∧ ∀ (i : Nat) (x : α), l[i]? = some x → P i x
  | 0, P, _ => ⟨[], rfl, fun i x h => by simp at h⟩
  | n + 1, P, h => by
    obtain ⟨x, hx⟩ := h 0 (by omega)
    obtain ⟨l, hl, hk⟩ := pick_all n (fun i => P (i + 1)) (fun i hi => h (i + 1) (by omega))
    refine ⟨x :: l, by simp [hl], fun i y hy => ?_⟩
    cases i with
    | zero => simp at hy; subst hy; exact hx
    | succ i => exact hk i y (by simpa using hy)
theorem list_two {α : Type} {l : List α} (h : l.length = 2) : ∃ x y, l = [x, y] := by
  match l, h with
  | [x, y], _ => exact ⟨x, y, rfl⟩
theorem cellsP : Try.prog.cellsOf 52 = 2 := by kernel_rfl
theorem cellsFt : Try.prog.cellsOf 55 = 3 := by kernel_rfl
theorem cellsI : Try.prog.cellsOf 3 = 1 := by kernel_rfl
theorem cellsE : Try.prog.cellsOf 30 = 1 := by kernel_rfl
theorem cellsLP : Try.prog.cellsOf 53 = 1 := by kernel_rfl
theorem cellsLS : Try.prog.cellsOf 29 = 1 := by kernel_rfl
section
variable {H : Type} {enc : TypeId × Value → H} {w : World} {base : Nat} {held : Bool}
theorem lt_of_row {b off : Nat} {cs : List Value} {u : Value} (h : vl.Row8 w b off cs) (h0 : cs[0]? = some u) : b < w.heap.size := World.block_lt_of_cell? w _ (h 0 u h0)
theorem pos_of {fuel : Nat} {v : Value} {x : DataW H × List MemPlace} (h : DataW.trod enc Try.prog w base (fun _ => true) held fuel 53 [v] = some x) :
    ∃ (a : Option Addr) (n c : Nat) (ps : List (Int × Int)), v = .slice a n c ∧ PosAt w a n ps ∧ n ≤ c ∧ (a = none → c = 0) ∧ c ≤ maxLen ∧ n ≤ Rows.uptoBulk x.1 := by
  rcases DataW.trod_slice Try.underlying53 h with ⟨hc, _⟩ | ⟨a, len, cap, elems, rest, k, hk, hc, hxs, _, hlc, hcm, hel, hcell, _, _⟩
  · simp at hc
    exact ⟨none, 0, 0, [], hc, ⟨rfl, .inl rfl⟩, Nat.le_refl _, fun _ => rfl, Nat.zero_le _, Nat.zero_le _⟩
  · simp at hc
    have hxs1 : x.1 = .slice (elems.map (·.1)) (rest.map (·.1)) := by rw [hxs]
    have hbl := bk_slice (elems.map (·.1)) (rest.map (·.1))
    rw [List.length_map, List.length_map] at hbl
    rw [hxs1]
    have key : ∀ i, i < len → ∃ p : Int × Int, w.cells? base (a.add (i * 2)) 2 = some (posC p) := by
      intro i hi
      have h1 := hcell i hi
      rw [cellsP, List.getElem?_eq_getElem (show i < elems.length by omega), Option.bind_eq_some_iff] at h1
      obtain ⟨cs, h2, h3⟩ := h1
      obtain ⟨y0, y1, q, hq, hyd, hl2, g0, g1⟩ := struct2w Try.underlying52 h3
      rw [cellsP] at hl2
      obtain ⟨u0, u1, rfl⟩ := list_two hl2
      simp only [cellsI, List.drop_zero, List.drop_succ_cons, List.take_succ_cons, List.take_zero] at g0 g1
      obtain ⟨z0, e0, _, _⟩ := DataW.trod_int Try.underlying3 g0
      obtain ⟨z1, e1, _, _⟩ := DataW.trod_int Try.underlying3 g1
      simp only [List.cons.injEq, and_true] at e0 e1
      subst e0 e1
      exact ⟨(z0, z1), h2⟩
    by_cases h0 : len = 0
    · subst h0
      exact ⟨some a, 0, cap, [], hc, ⟨rfl, .inl rfl⟩, by omega, fun e => (by cases e), hcm, by omega⟩
    · have hsp : a.spot = none := by
        obtain ⟨p, h1⟩ := key 0 (by omega)
        have := spot_of h1 (by omega)
        simpa [Addr.add] using this
      obtain ⟨bb, off, spot⟩ := a
      simp only at hsp
      subst hsp
      have key2 : ∀ i, i < len → ∃ p : Int × Int, vl.Row8 w bb (off + i * 2) (posC p) := by
        intro i hi
        obtain ⟨p, h1⟩ := key i hi
        rw [Addr.add_lit] at h1
        exact ⟨p, (row_of h1 rfl).2⟩
      obtain ⟨ps, hl, hp⟩ := pick_all len _ key2
      obtain ⟨p, h1⟩ := key2 0 (by omega)
      exact ⟨some ⟨bb, off, none⟩, len, cap, ps, hc, ⟨hl, .inr ⟨bb, off, rfl, lt_of_row h1 rfl, fun i p hi => hp i p hi⟩⟩, hlc, fun e => (by cases e), hcm, by omega⟩
theorem step_of {fuel : Nat} {v : Value} {x : DataW H × List MemPlace} (h : DataW.trod enc Try.prog w base (fun _ => true) held fuel 29 [v] = some x) :
    ∃ (a : Option Addr) (n c : Nat) (ss : List St), v = .slice a n c ∧ Pth w a n ss ∧ n ≤ c ∧ (a = none → c = 0) ∧ c ≤ maxLen ∧ n ≤ Rows.uptoBulk x.1 := by
  rcases DataW.trod_slice Try.underlying29 h with ⟨hc, _⟩ | ⟨a, len, cap, elems, rest, k, hk, hc, hxs, _, hlc, hcm, hel, hcell, _, _⟩
  · simp at hc
    exact ⟨none, 0, 0, [], hc, ⟨rfl, .inl rfl⟩, Nat.le_refl _, fun _ => rfl, Nat.zero_le _, Nat.zero_le _⟩
  · simp at hc
    subst hc
    obtain ⟨ss, h1, h2, h3, -⟩ := path_of (d := x.1) (p := x.2) h
    have hxs1 : x.1 = .slice (elems.map (·.1)) (rest.map (·.1)) := by rw [hxs]
    have hbl := bk_slice (elems.map (·.1)) (rest.map (·.1))
    rw [List.length_map, List.length_map] at hbl
    exact ⟨_, _, _, ss, rfl, h1, h2, h3, hcm, by rw [hxs1]; omega⟩
theorem four_sum {H : Type} : ∀ l : List (DataW H), (∀ d ∈ l, 4 ≤ Rows.uptoBulk d) → l.length * 4 ≤ Rows.uptoBulkAll l
  | [], _ => by simp
  | x :: r, h => by
    have h1 := h x (List.mem_cons_self ..)
    have h2 := four_sum r (fun d hd => h d (List.mem_cons_of_mem _ hd))
    simp only [Rows.uptoBulkAll, List.length_cons]
    omega
theorem bulk_pos (d : DataW H) : 1 ≤ Rows.uptoBulk d := by
  cases d <;> first | (simp only [Rows.uptoBulk]; omega) | exact Nat.le_refl _ | (rename_i l; cases l <;> first | (simp only [Rows.uptoBulk]; omega) | exact Nat.le_refl _ | simp [Rows.uptoBulk]) | simp [Rows.uptoBulk]
theorem flts_of {fuel : Nat} {a0 : Option Addr} {len0 cap0 : Nat} {d : DataW H} {p : List MemPlace} (h : DataW.trod enc Try.prog w base (fun _ => true) held fuel 50 [.slice a0 len0 cap0] = some (d, p)) (hN : Rows.uptoBulk d ≤ 1048576) :
    ∃ R : List Ft, FtsR w a0 len0 cap0 R ∧ len0 * 4 ≤ Rows.uptoBulk d := by
  rcases DataW.trod_slice Try.underlying50 h with ⟨hc, _⟩ | ⟨a, len, cap, elems, rest, k, hk, hc, hxs, _, hlc, hcm, hel, hcell, _, _⟩
  · simp at hc
    obtain ⟨rfl, rfl, rfl⟩ := hc
    exact ⟨[], ⟨rfl, Nat.le_refl _, fun _ => rfl, .inl rfl⟩, by omega⟩
  · simp at hc
    obtain ⟨rfl, rfl, rfl⟩ := hc
    have hxs1 : d = .slice (elems.map (·.1)) (rest.map (·.1)) := by simpa using congrArg Prod.fst hxs
    have hbe := bk_elems (elems.map (·.1)) (rest.map (·.1))
    rw [← hxs1] at hbe
    have key : ∀ i (hi : i < len0), ∃ (f : Ft) (cs : List Value), w.cells? base (a.add (i * 3)) 3 = some cs ∧ FtC w f cs ∧ 4 ≤ Rows.uptoBulk (elems[i]'(by omega)).1 := by
      intro i hi
      have h1 := hcell i hi
      rw [cellsFt, List.getElem?_eq_getElem (show i < elems.length by omega), Option.bind_eq_some_iff] at h1
      obtain ⟨cs, h2, h3⟩ := h1
      obtain ⟨y0, y1, y2, n', hD, hl3, g0, g1, g2⟩ := Go.Deep.trod_struct3 Try.underlying55 h3
      rw [cellsFt] at hl3
      obtain ⟨u0, u1, u2, rfl⟩ := list_three hl3
      simp only [cellsE, cellsLP, cellsLS, List.drop_zero, List.drop_succ_cons, List.take_succ_cons, List.take_zero] at g0 g1 g2
      obtain ⟨z0, e0, _, _⟩ := DataW.trod_int Try.underlying30 g0
      simp only [List.cons.injEq, and_true] at e0
      subst e0
      obtain ⟨ap, np, cp, ps, rfl, p1, p2, p3, p4, p5⟩ := pos_of g1
      obtain ⟨aq, nq, cq, ss, rfl, q1, q2, q3, q4, q5⟩ := step_of g2
      have hbm := bk_mem (List.mem_map.2 ⟨_, List.getElem_mem (show i < elems.length by omega), rfl⟩ : (elems[i]'(by omega)).1 ∈ elems.map (·.1))
      have hD1 : Rows.uptoBulk (elems[i]'(by omega)).1 = Rows.uptoBulk (.agg [y0.1, y1.1, y2.1] : DataW H) := by rw [hD]
      simp only [Rows.uptoBulk, Rows.uptoBulkAll] at hD1
      have b0 := bulk_pos y0.1
      have b1 := bulk_pos y1.1
      have b2 := bulk_pos y2.1
      exact ⟨⟨z0, ps, ss⟩, _, h2, ⟨ap, np, cp, aq, nq, cq, rfl, p1, q1, by omega, by omega, p2, q2, p3, q3, p4, q4⟩, by omega⟩
    have hb4 : len0 * 4 ≤ Rows.uptoBulk d := by
      have := four_sum (elems.map (·.1)) (fun e he => by
        obtain ⟨x, hx, rfl⟩ := List.mem_map.1 he
        obtain ⟨i, hi, rfl⟩ := List.mem_iff_getElem.1 hx
        obtain ⟨f, cs, -, -, h4⟩ := key i (by omega)
        exact h4)
      rw [List.length_map] at this
      omega
    by_cases h0 : len0 = 0
    · subst h0
      exact ⟨[], ⟨rfl, hlc, fun e => (by cases e), .inl rfl⟩, by omega⟩
    · have hsp : a.spot = none := by
        obtain ⟨f, cs, h1, _⟩ := key 0 (by omega)
        have := spot_of h1 (by omega)
        simpa [Addr.add] using this
      obtain ⟨bb, off, spot⟩ := a
      simp only at hsp
      subst hsp
      have key2 : ∀ i, i < len0 → ∃ f : Ft, ∃ cs, vl.Row8 w bb (off + i * 3) cs ∧ FtC w f cs := by
        intro i hi
        obtain ⟨f, cs, h1, h2, -⟩ := key i hi
        rw [Addr.add_lit] at h1
        exact ⟨f, cs, (row_of h1 rfl).2, h2⟩
      obtain ⟨R, hl, hp⟩ := pick_all len0 _ key2
      obtain ⟨f, cs, h1, h2⟩ := key2 0 (by omega)
      obtain ⟨_, _, _, _, _, _, ec, -⟩ := h2
      exact ⟨R, ⟨hl, hlc, fun e => (by cases e), .inr ⟨bb, off, rfl, lt_of_row h1 (by rw [ec]; rfl), fun i f hi => hp i f hi⟩⟩, hb4⟩
end
end Go.Proofs.Ythpcpminikmcbaa.og
namespace Go.Proofs.Ythpcpminikmcbaa.og
open Go.ChangeShapes Go.WideShapes Go.ChangeAt Go.RowKit Go.Shelf
open vl hiding cB cFl cS cF cI cK cIt
open stp (St Pth St3 c3 c3_lt c3_gt c3_eq lexS)
set_option linter.unusedVariables false
set_option linter.unusedSimpArgs false
/-- two rising lists laid into one: what ref03.ordered does -/
def mg : List Ft → List Ft → List Ft
  | [], B => B
  | a :: A, [] => a :: A
  | a :: A, b :: B => if cF a b < 0 then a :: mg A (b :: B) else if cF a b = 0 then a :: mg A B else b :: mg (a :: A) B
termination_by A B => A.length + B.length
theorem mg_nil (B : List Ft) : mg [] B = B := by rw [mg]
theorem mg_nil' (A : List Ft) : mg A [] = A := by cases A <;> rw [mg]
theorem mg_lt {a b : Ft} {A B : List Ft} (h : cF a b < 0) : mg (a :: A) (b :: B) = a :: mg A (b :: B) := by rw [mg, if_pos h]
theorem mg_eq {a b : Ft} {A B : List Ft} (h : cF a b = 0) : mg (a :: A) (b :: B) = a :: mg A B := by rw [mg, if_neg (by omega), if_pos h]
theorem mg_gt {a b : Ft} {A B : List Ft} (h : 0 < cF a b) : mg (a :: A) (b :: B) = b :: mg (a :: A) B := by rw [mg, if_neg (by omega), if_neg (by omega)]
theorem mg_len : ∀ A B : List Ft, (mg A B).length ≤ A.length + B.length
  | [], B => by rw [mg_nil]; simp
  | a :: A, [] => by rw [mg_nil']; simp
  | a :: A, b :: B => by
    rcases Int.lt_trichotomy (cF a b) 0 with h | h | h
    · have := mg_len A (b :: B); rw [mg_lt h]; simp only [List.length_cons] at *; omega
    · have := mg_len A B; rw [mg_eq h]; simp only [List.length_cons] at *; omega
    · have := mg_len (a :: A) B; rw [mg_gt h]; simp only [List.length_cons] at *; omega
termination_by A B => A.length + B.length
theorem mg_mem : ∀ (A B : List Ft), (∀ a ∈ A, ∀ b ∈ B, cF a b = 0 → a = b) → ∀ f, f ∈ mg A B ↔ f ∈ A ∨ f ∈ B
  | [], B, _, f => by rw [mg_nil]; simp
  | a :: A, [], _, f => by rw [mg_nil']; simp
  | a :: A, b :: B, hz, f => by
    rcases Int.lt_trichotomy (cF a b) 0 with h | h | h
    · rw [mg_lt h, List.mem_cons, mg_mem A (b :: B) (fun x hx => hz x (List.mem_cons_of_mem _ hx)) f, List.mem_cons, List.mem_cons]
      constructor
      · rintro (h | h | h | h) <;> simp [h]
      · rintro ((h | h) | h | h) <;> simp [h]
    · have e : a = b := hz a (List.mem_cons_self ..) b (List.mem_cons_self ..) h
      rw [mg_eq h, List.mem_cons, mg_mem A B (fun x hx y hy => hz x (List.mem_cons_of_mem _ hx) y (List.mem_cons_of_mem _ hy)) f, List.mem_cons, List.mem_cons, e]
      constructor
      · rintro (h | h | h) <;> simp [h]
      · rintro ((h | h) | h | h) <;> simp [h]
    · rw [mg_gt h, List.mem_cons, mg_mem (a :: A) B (fun x hx y hy => hz x hx y (List.mem_cons_of_mem _ hy)) f, List.mem_cons, List.mem_cons]
      constructor
      · rintro (h | (h | h) | h) <;> simp [h]
      · rintro ((h | h) | h | h) <;> simp [h]
termination_by A B => A.length + B.length
theorem cF_trans {a b c : Ft} (h : cF a b < 0) (k : cF b c < 0) : cF a c < 0 := by
  have t := Tr.cF a b c
  have r1 := Rg.cF a b
  have r2 := Rg.cF b c
  unfold Rg at r1 r2
  have : cF a c = cF a b := t.2.2.1 (by omega)
  omega
theorem mg_ris : ∀ (A B : List Ft), Ris A → Ris B → (∀ a ∈ A, ∀ b ∈ B, cF a b = 0 → a = b) → Ris (mg A B)
  | [], B, _, hB, _ => by rw [mg_nil]; exact hB
  | a :: A, [], hA, _, _ => by rw [mg_nil']; exact hA
  | a :: A, b :: B, hA, hB, hz => by
    obtain ⟨a1, a2⟩ := List.pairwise_cons.1 hA
    obtain ⟨b1, b2⟩ := List.pairwise_cons.1 hB
    rcases Int.lt_trichotomy (cF a b) 0 with h | h | h
    · have hz' : ∀ x ∈ A, ∀ y ∈ b :: B, cF x y = 0 → x = y := fun x hx => hz x (List.mem_cons_of_mem _ hx)
      rw [mg_lt h]
      refine List.pairwise_cons.2 ⟨fun y hy => ?_, mg_ris A (b :: B) a2 hB hz'⟩
      rcases (mg_mem A (b :: B) hz' y).1 hy with hy | hy
      · exact a1 y hy
      · rcases List.mem_cons.1 hy with rfl | hy
        · exact h
        · exact cF_trans h (b1 y hy)
    · have hz' : ∀ x ∈ A, ∀ y ∈ B, cF x y = 0 → x = y := fun x hx y hy => hz x (List.mem_cons_of_mem _ hx) y (List.mem_cons_of_mem _ hy)
      have e : a = b := hz a (List.mem_cons_self ..) b (List.mem_cons_self ..) h
      rw [mg_eq h]
      refine List.pairwise_cons.2 ⟨fun y hy => ?_, mg_ris A B a2 b2 hz'⟩
      rcases (mg_mem A B hz' y).1 hy with hy | hy
      · exact a1 y hy
      · rw [e]; exact b1 y hy
    · have hz' : ∀ x ∈ a :: A, ∀ y ∈ B, cF x y = 0 → x = y := fun x hx y hy => hz x hx y (List.mem_cons_of_mem _ hy)
      have h' : cF b a < 0 := by rw [cF_anti a b]; omega
      rw [mg_gt h]
      refine List.pairwise_cons.2 ⟨fun y hy => ?_, mg_ris (a :: A) B hA b2 hz'⟩
      rcases (mg_mem (a :: A) B hz' y).1 hy with hy | hy
      · rcases List.mem_cons.1 hy with rfl | hy
        · exact h'
        · exact cF_trans h' (a1 y hy)
      · exact b1 y hy
termination_by A B => A.length + B.length
/-- clean faults: what is level is the same -/
def Cn (L : List Ft) : Prop := ∀ f ∈ L, can f = f
theorem Cn.zero {A B : List Ft} (hA : Cn A) (hB : Cn B) : ∀ a ∈ A, ∀ b ∈ B, cF a b = 0 → a = b := fun a ha b hb h => by rw [← hA a ha, ← hB b hb]; exact cF_zero h
/-- what ordered answers: rising, the same faults -/
structure Od (L R : List Ft) : Prop where
  ris : Ris R
  mem : ∀ f, f ∈ R ↔ f ∈ L
  len : R.length ≤ L.length
theorem Od.self {L : List Ft} (h : L.length < 2) : Od L L := by
  refine ⟨?_, fun f => Iff.rfl, Nat.le_refl _⟩
  match L, h with
  | [], _ => exact List.Pairwise.nil
  | [a], _ => exact List.pairwise_singleton _ _
theorem Od.mg {L A B : List Ft} {h : Nat} (hc : Cn L) (hA : Od (L.take h) A) (hB : Od (L.drop h) B) : Od L (mg A B) := by
  have cA : Cn A := fun f hf => hc f (List.mem_of_mem_take ((hA.mem f).1 hf))
  have cB : Cn B := fun f hf => hc f (List.mem_of_mem_drop ((hB.mem f).1 hf))
  refine ⟨mg_ris A B hA.ris hB.ris (cA.zero cB), fun f => ?_, ?_⟩
  · rw [mg_mem A B (cA.zero cB) f, hA.mem, hB.mem, ← List.mem_append, List.take_append_drop]
  · have h1 := mg_len A B
    have h2 := hA.len
    have h3 := hB.len
    rw [List.length_take] at h2
    rw [List.length_drop] at h3
    omega
theorem Od.rs {ins L R : List Ft} (hL : L = ins.map can) (h : Od L R) : Rs ins R := ⟨h.ris, fun f => by rw [h.mem, hL, List.mem_map]; constructor <;> (rintro ⟨g, hg, e⟩; exact ⟨g, hg, e.symm⟩)⟩
theorem cn_map (l : List Ft) : Cn (l.map can) := fun f hf => by
  obtain ⟨g, -, rfl⟩ := List.mem_map.1 hf
  exact can_can g
end Go.Proofs.Ythpcpminikmcbaa.og
namespace Go.Proofs.Ythpcpminikmcbaa.og
open Go.ChangeShapes Go.WideShapes Go.ChangeAt Go.RowKit
open vl hiding cB cFl cS cF cI cK cIt
set_option linter.unusedVariables false
set_option linter.unusedSimpArgs false
/-- the parts one step below -/
def chV : Vl → List Vl
  | .mk kd _ _ _ _ _ its fls => if kd = 5 then its.list else if kd = 6 then fls.list.map (fun q => q.2) else []
def ChAt (v : Vl) : Prop := ∀ (cs : List Value) (w : World), VlC w v cs → Calls Try.prog 54 #[.agg cs.toArray] w fun e w' => ∃ s4 aj cj, e = .returned (.tuple #[s4, .slice aj (chV v).length cj]) ∧ VlsAt w' (Vls.of (chV v)) aj (chV v).length ∧ Below w.heap.size w w'
theorem buildS (x y z : Value) (hx : ∃ s, x = .string s) (hy : ∃ i, y = .int .i64 i) (hz : ∃ c, z = .bool c) (w : World) : (Instr.buildSlice 29 1 #[(0, .agg #[x, y, z])]).run Try.prog w = .ok (.slice (some ⟨w.heap.size, 0, none⟩) 1 1) (w.alloc (.cells #[x, y, z] 34)) := by
  obtain ⟨s, rfl⟩ := hx
  obtain ⟨i, rfl⟩ := hy
  obtain ⟨c, rfl⟩ := hz
  go_simp
set_option maxHeartbeats 8000000 in
set_option maxRecDepth 6000 in
theorem ch_5 (b : Bool) (n : Int) (f : Nat) (tx ty : ByteArray) (its : Vls) (fls : Fls) (hsl : its.list.length ≤ 1256584717458) : ChAt (.mk 5 b n f tx ty its fls) := by
  intro cs w hv
  have gv := hv
  unfold VlC at gv
  obtain ⟨ai, ni, ci, af, nf, cf, rfl, vI, vF, q1, q2, q3, q4, q5, q6, q7, q8, q9, q10⟩ := gv
  obtain ⟨W, eW⟩ : ∃ W, W = w.alloc (.cells #[.int .i64 5, .bool b, .int .i64 n, .float .f64 f, .string tx, .string ty, .slice ai ni ci, .slice af nf cf] 27) := ⟨_, rfl⟩
  have BW : Below w.heap.size w W := by rw [eW]; exact (Below.refl _ _).alloc (Nat.le_refl _) _
  have R_a := hide (show Row8 W w.heap.size 0 [.int .i64 5, .bool b, .int .i64 n, .float .f64 f, .string tx, .string ty, .slice ai ni ci, .slice af nf cf] from fun j x hx => by
    rw [eW, Nat.zero_add, World.cell?_alloc_at _ _ _ _ rfl]; simpa using hx)
  have V_a := hide (VlC.below BW _ _ hv)
  have EW := hide eW
  clear eW q5 q6 q7 q8
  go_enter Try.func54, Try.ntmps54
  go_wp2_with (rw [← unhide EW]; refine wpList_load_mid (by rfl) 27 _ (by rfl) w.heap.size 0 (by rfl) [.int .i64 5, .bool b, .int .i64 n, .float .f64 f, .string tx, .string ty, .slice ai ni ci, .slice af nf cf] _ (unhide R_a) Try.underlying27 (by rfl) infoV ?_)
  clear EW
  refine (rkind_ok (.mk 5 b n f tx ty its fls) _ _ _ (unhide V_a)).mono ?_
  rintro e w1 ⟨rfl, g⟩
  rw [show kdV (Vl.mk 5 b n f tx ty its fls) = 5 from (by decide : kdOf 5 = 5)]
  have R_a := hide (Row8.below (unhide R_a) g)
  have BW : Below w.heap.size w w1 := BW.trans (g.mono BW.size)
  have HI := hide (VlsAt.below BW its _ _ vI)
  have HF := hide (FlsAt.below BW fls _ _ vF)
  clear g V_a hv vI vF
  have x : w1.cell? ⟨w.heap.size, 6, none⟩ = some (.slice ai ni ci) := (unhide R_a) 6 _ rfl
  have l1 := VlsAt.len its _ _ (unhide HI)
  have BN : ni ≤ 1256584717458 := by omega
  have L1 := hide l1
  have HN0 := hide (ChS.nil w1)
  clear l1
  go_wp2_with fail
  go_loopw [6, 4, 5] (fun vi v4 v5 wr => ∃ (k : Nat) (s4 s5 : Value) (st : List (List Value)), k ≤ ni ∧ vi = .int .i64 k ∧ v4 = s4 ∧ v5 = s5 ∧ vl.Hid (ChS w1 st (its.list.take k) s4 s5 wr) ∧ vl.Hid (st.length = k)) (fun vi _ _ _ => ni - (intOf vi).toNat)
  case atStart => exact ⟨0, _, _, [], Nat.zero_le _, rfl, rfl, rfl, by rw [List.take_zero]; exact HN0, rfl⟩
  case round =>
    clear x HN0
    obtain ⟨k, s4, s5, st, hk1, rfl, rfl, rfl, HS, hst⟩ := hrel
    have x : wr.cell? ⟨w.heap.size, 6, none⟩ = some (.slice ai ni ci) := (Row8.below (unhide R_a) (unhide HS).bel) 6 _ rfl
    by_cases hlt : k < ni
    · have ki : (k : Int) < (ni : Int) := by omega
      obtain ⟨p, off, v, us, rfl, hg, hr, hv⟩ := VlsAt.get its _ _ (unhide HI) k hlt
      have Hg := hide (show its.list[k]? = some v from hg)
      have iu : (Try.prog.info? 27).map (·.size) = some us.length := by rw [hv.cells]; exact infoV
      have hone : ∀ u ∈ ([Value.string { data := #[] }, Value.int .i64 k, Value.bool true] : List Value), u.oneCell' = true := by simp [Value.oneCell']
      have hbS := buildS (Value.string { data := #[] }) (Value.int .i64 k) (Value.bool true) ⟨_, rfl⟩ ⟨_, rfl⟩ ⟨_, rfl⟩
      have hbV := buildV hv
      have hn4 : st.length + 1 ≤ 1256584717458 := by rw [unhide hst]; omega
      have hn5 : (its.list.take k).length + 1 ≤ 1256584717458 := by have h1 := List.length_take_le k its.list; omega
      have A := hide (And.intro hr (And.intro hv (And.intro iu (And.intro hone (And.intro hbS (And.intro hbV (And.intro hn4 hn5)))))))
      clear hr hv iu hone hbS hbV hn4 hn5 hg
      go_wp2_with (first
        | refine wpList_buildOne (by rfl) 29 _ (by rfl) (.agg #[Value.string { data := #[] }, Value.int .i64 k, Value.bool true]) _ (by rfl) ((unhide A).2.2.2.2.1 wr) ?_
        | (at_builtin; refine wp_put4 (unhide HS) (by rfl) _ _ (by rfl) (by rfl) [Value.string { data := #[] }, Value.int .i64 k, Value.bool true] rfl (unhide A).2.2.2.1 wr.heap.size rfl (by rfl) (unhide A).2.2.2.2.2.2.1 ?_; intro g4 n4 c4 w3 hS3; have x3 : w3.cell? ⟨w.heap.size, 6, none⟩ = some (.slice (some ⟨p, off, none⟩) ni ci) := (Row8.below (unhide R_a) hS3.bel) 6 _ rfl; have HS3 := hide hS3; clear hS3)
        | refine wpList_load_mid (by rfl) 27 _ (by rfl) p (off + k * 8) (by rfl) us _ (Row8.below (unhide A).1 (unhide HS3).bel) Try.underlying27 (by rfl) (unhide A).2.2.1 ?_
        | refine wpList_buildOne (by rfl) 24 _ (by rfl) (.agg us.toArray) _ (by rfl) ((unhide A).2.2.2.2.2.1 w3) ?_
        | (at_builtin; refine wp_put5 (unhide HS3) (by rfl) _ _ (by rfl) (by rfl) v us (unhide A).2.1 w3.heap.size rfl (by rfl) (unhide A).2.2.2.2.2.2.2 ?_; intro g5 n5 c5 w4 hS4; have HS4 := hide hS4; clear hS4))
      go_roundw
      case rel => exact ⟨k + 1, _, _, st ++ [[Value.string { data := #[] }, Value.int .i64 k, Value.bool true]], by omega, by go_num, rfl, rfl, by rw [List.take_add_one, unhide Hg]; exact HS4, by show (st ++ [[Value.string { data := #[] }, Value.int .i64 k, Value.bool true]]).length = k + 1; rw [List.length_append, unhide hst]; rfl⟩
      case measure => simp [intOf]; omega
    · obtain rfl : k = ni := by omega
      have hS := unhide HS
      rw [List.take_of_length_le (by first | exact Nat.le_of_eq (unhide L1) | (rw [List.length_map]; exact Nat.le_of_eq (unhide L1)))] at hS
      have G2 : Below w.heap.size w wr := BW.trans (hS.bel.mono BW.size)
      obtain ⟨aj, cj, rfl, hvs⟩ := hS.g5.vals hS.bel
      have HV := hide hvs
      clear hS hvs HS
      go_wp2
      go_ret2
      have hch : chV (.mk 5 b n f tx ty its fls) = its.list := by simp [chV]
      rw [hch]
      exact ⟨_, aj, cj, rfl, unhide HV, G2⟩
set_option maxHeartbeats 8000000 in
set_option maxRecDepth 6000 in
theorem ch_6 (b : Bool) (n : Int) (f : Nat) (tx ty : ByteArray) (its : Vls) (fls : Fls) (hsl : fls.list.length ≤ 1099511627776) : ChAt (.mk 6 b n f tx ty its fls) := by
  intro cs w hv
  have gv := hv
  unfold VlC at gv
  obtain ⟨ai, ni, ci, af, nf, cf, rfl, vI, vF, q1, q2, q3, q4, q5, q6, q7, q8, q9, q10⟩ := gv
  obtain ⟨W, eW⟩ : ∃ W, W = w.alloc (.cells #[.int .i64 6, .bool b, .int .i64 n, .float .f64 f, .string tx, .string ty, .slice ai ni ci, .slice af nf cf] 27) := ⟨_, rfl⟩
  have BW : Below w.heap.size w W := by rw [eW]; exact (Below.refl _ _).alloc (Nat.le_refl _) _
  have R_a := hide (show Row8 W w.heap.size 0 [.int .i64 6, .bool b, .int .i64 n, .float .f64 f, .string tx, .string ty, .slice ai ni ci, .slice af nf cf] from fun j x hx => by
    rw [eW, Nat.zero_add, World.cell?_alloc_at _ _ _ _ rfl]; simpa using hx)
  have V_a := hide (VlC.below BW _ _ hv)
  have EW := hide eW
  clear eW q5 q6 q7 q8
  go_enter Try.func54, Try.ntmps54
  go_wp2_with (rw [← unhide EW]; refine wpList_load_mid (by rfl) 27 _ (by rfl) w.heap.size 0 (by rfl) [.int .i64 6, .bool b, .int .i64 n, .float .f64 f, .string tx, .string ty, .slice ai ni ci, .slice af nf cf] _ (unhide R_a) Try.underlying27 (by rfl) infoV ?_)
  clear EW
  refine (rkind_ok (.mk 6 b n f tx ty its fls) _ _ _ (unhide V_a)).mono ?_
  rintro e w1 ⟨rfl, g⟩
  rw [show kdV (Vl.mk 6 b n f tx ty its fls) = 6 from (by decide : kdOf 6 = 6)]
  have R_a := hide (Row8.below (unhide R_a) g)
  have BW : Below w.heap.size w w1 := BW.trans (g.mono BW.size)
  have HI := hide (VlsAt.below BW its _ _ vI)
  have HF := hide (FlsAt.below BW fls _ _ vF)
  clear g V_a hv vI vF
  have x : w1.cell? ⟨w.heap.size, 7, none⟩ = some (.slice af nf cf) := (unhide R_a) 7 _ rfl
  have l1 := FlsAt.len fls _ _ (unhide HF)
  have BN : nf ≤ 1256584717458 := by omega
  have L1 := hide l1
  have HN0 := hide (ChS.nil w1)
  clear l1
  go_wp2_with fail
  go_loopw [7, 4, 5] (fun vi v4 v5 wr => ∃ (k : Nat) (s4 s5 : Value) (st : List (List Value)), k ≤ nf ∧ vi = .int .i64 k ∧ v4 = s4 ∧ v5 = s5 ∧ vl.Hid (ChS w1 st ((fls.list.map (fun q => q.2)).take k) s4 s5 wr) ∧ vl.Hid (st.length = k)) (fun vi _ _ _ => nf - (intOf vi).toNat)
  case atStart => exact ⟨0, _, _, [], Nat.zero_le _, rfl, rfl, rfl, by rw [List.take_zero]; exact HN0, rfl⟩
  case round =>
    clear x HN0
    obtain ⟨k, s4, s5, st, hk1, rfl, rfl, rfl, HS, hst⟩ := hrel
    have x : wr.cell? ⟨w.heap.size, 7, none⟩ = some (.slice af nf cf) := (Row8.below (unhide R_a) (unhide HS).bel) 7 _ rfl
    by_cases hlt : k < nf
    · have ki : (k : Int) < (nf : Int) := by omega
      obtain ⟨p, off, nm, v, us, rfl, hg, hn0, hz, hr, hv⟩ := FlsAt.get fls _ _ (unhide HF) k hlt
      have Hg := hide (show (fls.list.map (fun q => q.2))[k]? = some v by rw [List.getElem?_map, hg]; rfl)
      have cn : wr.cell? ⟨p, off + k * 9, none⟩ = some (.string nm) := (Below.cell (unhide HS).bel (p := ⟨p, off + k * 9, none⟩) (World.block_lt_of_cell? w1 _ hn0)).trans hn0
      clear hn0
      have iu : (Try.prog.info? 27).map (·.size) = some us.length := by rw [hv.cells]; exact infoV
      have hone : ∀ u ∈ ([Value.string nm, Value.int .i64 0, Value.bool false] : List Value), u.oneCell' = true := by simp [Value.oneCell']
      have hbS := buildS (Value.string nm) (Value.int .i64 0) (Value.bool false) ⟨_, rfl⟩ ⟨_, rfl⟩ ⟨_, rfl⟩
      have hbV := buildV hv
      have hn4 : st.length + 1 ≤ 1256584717458 := by rw [unhide hst]; omega
      have hn5 : ((fls.list.map (fun q => q.2)).take k).length + 1 ≤ 1256584717458 := by have h1 := List.length_take_le k (fls.list.map (fun q => q.2)); omega
      have A := hide (And.intro hr (And.intro hv (And.intro iu (And.intro hone (And.intro hbS (And.intro hbV (And.intro hn4 hn5)))))))
      clear hr hv iu hone hbS hbV hn4 hn5 hg
      go_wp2_with (first
        | refine wpList_buildOne (by rfl) 29 _ (by rfl) (.agg #[Value.string nm, Value.int .i64 0, Value.bool false]) _ (by rfl) ((unhide A).2.2.2.2.1 wr) ?_
        | (at_builtin; refine wp_put4 (unhide HS) (by rfl) _ _ (by rfl) (by rfl) [Value.string nm, Value.int .i64 0, Value.bool false] rfl (unhide A).2.2.2.1 wr.heap.size rfl (by rfl) (unhide A).2.2.2.2.2.2.1 ?_; intro g4 n4 c4 w3 hS3; have x3 : w3.cell? ⟨w.heap.size, 7, none⟩ = some (.slice (some ⟨p, off, none⟩) nf cf) := (Row8.below (unhide R_a) hS3.bel) 7 _ rfl; have HS3 := hide hS3; clear hS3)
        | refine wpList_load_mid (by rfl) 27 _ (by rfl) p (off + k * 9 + 1) (by rfl) us _ (Row8.below (unhide A).1 (unhide HS3).bel) Try.underlying27 (by rfl) (unhide A).2.2.1 ?_
        | refine wpList_buildOne (by rfl) 24 _ (by rfl) (.agg us.toArray) _ (by rfl) ((unhide A).2.2.2.2.2.1 w3) ?_
        | (at_builtin; refine wp_put5 (unhide HS3) (by rfl) _ _ (by rfl) (by rfl) v us (unhide A).2.1 w3.heap.size rfl (by rfl) (unhide A).2.2.2.2.2.2.2 ?_; intro g5 n5 c5 w4 hS4; have HS4 := hide hS4; clear hS4))
      go_roundw
      case rel => exact ⟨k + 1, _, _, st ++ [[Value.string nm, Value.int .i64 0, Value.bool false]], by omega, by go_num, rfl, rfl, by rw [List.take_add_one, unhide Hg]; exact HS4, by show (st ++ [[Value.string nm, Value.int .i64 0, Value.bool false]]).length = k + 1; rw [List.length_append, unhide hst]; rfl⟩
      case measure => simp [intOf]; omega
    · obtain rfl : k = nf := by omega
      have hS := unhide HS
      rw [List.take_of_length_le (by first | exact Nat.le_of_eq (unhide L1) | (rw [List.length_map]; exact Nat.le_of_eq (unhide L1)))] at hS
      have G2 : Below w.heap.size w wr := BW.trans (hS.bel.mono BW.size)
      obtain ⟨aj, cj, rfl, hvs⟩ := hS.g5.vals hS.bel
      have HV := hide hvs
      clear hS hvs HS
      go_wp2
      go_ret2
      have hch : chV (.mk 6 b n f tx ty its fls) = (fls.list.map (fun q => q.2)) := by simp [chV]
      rw [hch]
      exact ⟨_, aj, cj, rfl, unhide HV, G2⟩
set_option maxHeartbeats 8000000 in
set_option maxRecDepth 6000 in
theorem ch_0 (kd : Int) (b : Bool) (n : Int) (f : Nat) (tx ty : ByteArray) (its : Vls) (fls : Fls) (K : Int) (hk : kdOf kd = K) (h5 : K ≠ 5) (h6 : K ≠ 6) : ChAt (.mk kd b n f tx ty its fls) := by
  intro cs w hv
  have gv := hv
  unfold VlC at gv
  obtain ⟨ai, ni, ci, af, nf, cf, rfl, vI, vF, q1, q2, q3, q4, q5, q6, q7, q8, q9, q10⟩ := gv
  obtain ⟨W, eW⟩ : ∃ W, W = w.alloc (.cells #[.int .i64 kd, .bool b, .int .i64 n, .float .f64 f, .string tx, .string ty, .slice ai ni ci, .slice af nf cf] 27) := ⟨_, rfl⟩
  have BW : Below w.heap.size w W := by rw [eW]; exact (Below.refl _ _).alloc (Nat.le_refl _) _
  have R_a := hide (show Row8 W w.heap.size 0 [.int .i64 kd, .bool b, .int .i64 n, .float .f64 f, .string tx, .string ty, .slice ai ni ci, .slice af nf cf] from fun j x hx => by
    rw [eW, Nat.zero_add, World.cell?_alloc_at _ _ _ _ rfl]; simpa using hx)
  have V_a := hide (VlC.below BW _ _ hv)
  have EW := hide eW
  clear eW q5 q6 q7 q8
  go_enter Try.func54, Try.ntmps54
  go_wp2_with (rw [← unhide EW]; refine wpList_load_mid (by rfl) 27 _ (by rfl) w.heap.size 0 (by rfl) [.int .i64 kd, .bool b, .int .i64 n, .float .f64 f, .string tx, .string ty, .slice ai ni ci, .slice af nf cf] _ (unhide R_a) Try.underlying27 (by rfl) infoV ?_)
  clear EW
  refine (rkind_ok (.mk kd b n f tx ty its fls) _ _ _ (unhide V_a)).mono ?_
  rintro e w1 ⟨rfl, g⟩
  rw [show kdV (Vl.mk kd b n f tx ty its fls) = K from hk]
  have R_a := hide (Row8.below (unhide R_a) g)
  have BW : Below w.heap.size w w1 := BW.trans (g.mono BW.size)
  have HI := hide (VlsAt.below BW its _ _ vI)
  have HF := hide (FlsAt.below BW fls _ _ vF)
  clear g V_a hv vI vF
  have h5' : kd ≠ 5 := fun e => h5 (by rw [← hk, e]; decide)
  have h6' : kd ≠ 6 := fun e => h6 (by rw [← hk, e]; decide)
  go_wp2
  go_ret2
  have hch : chV (.mk kd b n f tx ty its fls) = [] := by simp [chV, h5', h6']
  rw [hch]
  exact ⟨_, none, 0, rfl, by simp only [Vls.of]; unfold VlsAt; rfl, BW⟩
theorem ch_ok (v : Vl) (hv : Small v) : ChAt v := by
  obtain ⟨kd, b, n, f, tx, ty, its, fls⟩ := v
  unfold Small at hv
  by_cases h5 : kdOf kd = 5
  · obtain rfl := kdOf_five h5
    exact ch_5 _ _ _ _ _ _ _ hv.1
  · by_cases h6 : kdOf kd = 6
    · obtain rfl := kdOf_six h6
      exact ch_6 _ _ _ _ _ _ _ hv.2.1
    · exact ch_0 _ _ _ _ _ _ _ _ _ rfl h5 h6
end Go.Proofs.Ythpcpminikmcbaa.og
namespace Go.Proofs.Ythpcpminikmcbaa.og
open Go.ChangeShapes Go.WideShapes Go.ChangeAt Go.RowKit
open vl hiding cB cFl cS cF cI cK cIt
open stp (St)
set_option linter.unusedVariables false
set_option linter.unusedSimpArgs false
/-- a step's three cells -/
def stC (s : St) : List Value := [.string s.nm, .int .i64 s.ix, .bool s.it]
/-- the two lists of Children as they grow -/
structure CgS (V W : World) (l4 : List St) (l5 : List Vl) (s4 s5 : Value) (w : World) : Prop where
  g4 : GrV (fun s cs => cs = stC s) 34 3 W.heap.size l4 s4 w
  g5 : GrV (fun v cs => VlC V v cs) 27 8 W.heap.size l5 s5 w
  ne : ∀ b, s4.ownBlock = some b → s5.ownBlock ≠ some b
  bel : Below W.heap.size W w
theorem CgS.nil (V W : World) : CgS V W [] [] (.slice none 0 0) (.slice none 0 0) W := ⟨GrV.nil, GrV.nil, fun b h => by simp [Value.ownBlock] at h, Below.refl _ _⟩
theorem wp_cg4 {V W w : World} {l4 : List St} {l5 : List Vl} {s4 s5 : Value} {ops : Array Oper} {rest : List Oper} {o : Oper} {a : Act} {Q : Exit → Act → World → Prop} (hS : CgS V W l4 l5 s4 s5 w) (hgd : o.guard = none) (s x : Operand)
    (ho : o.op = .call { callee := .builtin .append, args := #[s, x], argTypes := #[29, 29] }) (hs : a.eval s = s4) (st : St) (ds : List Value) (hd : ds = stC st) (N : Nat) (hN : N = w.heap.size) (hx : a.eval x = .slice (some ⟨N, 0, none⟩) 1 1) (hn : l4.length + 1 ≤ 1256584717458)
    (h : ∀ g n cap w', CgS V W (l4 ++ [st]) l5 (.slice (some ⟨g, 0, none⟩) n cap) s5 w' → wpList Try.prog ops Q rest (a.put o.dst (.slice (some ⟨g, 0, none⟩) n cap)) w') : wpList Try.prog ops Q (o :: rest) a (w.alloc (.cells ds.toArray 34)) := by
  obtain ⟨i, z, hi, hz, hsz, hb, hc⟩ := infoSz
  have hlt4 := hS.g4.lt
  have hlt5 := hS.g5.lt
  refine wp_grv hgd s x ho Try.underlying29 hi hz hsz hb hc (by omega) W.heap.size l4 s4 hs hS.g4 st ds hd (by rw [hd]; rfl) (by rw [hd]; simp [stC, Value.oneCell']) N hN hx (by omega) (by unfold maxLen; omega) hS.bel.size ?_
  intro g cap w' hg hgr hat hlt
  refine h g _ cap w' ⟨hg, ?_, ?_, ?_⟩
  · refine (hS.g5.kept (World.grownBy_alloc w _ none) (by cases hv : s5.ownBlock <;> simp)).kept hgr ?_
    cases h5 : s5.ownBlock with
    | none => exact .inl rfl
    | some b => exact .inr (fun e => hS.ne b e.symm h5)
  · intro b hb' h5
    have hb' : g = b := by simpa [Value.ownBlock] using hb'
    subst hb'
    rcases hat with hat | hat
    · exact hS.ne _ hat h5
    · have := (hlt5 _ h5).2; omega
  · exact (hS.bel.alloc hS.bel.size _).grown hgr (by have := hS.bel.size; simp; omega) (fun k hk => (hlt4 k hk).1)
theorem wp_cg5 {V W w : World} {l4 : List St} {l5 : List Vl} {s4 s5 : Value} {ops : Array Oper} {rest : List Oper} {o : Oper} {a : Act} {Q : Exit → Act → World → Prop} (hS : CgS V W l4 l5 s4 s5 w) (hgd : o.guard = none) (s x : Operand)
    (ho : o.op = .call { callee := .builtin .append, args := #[s, x], argTypes := #[24, 24] }) (hs : a.eval s = s5) (v : Vl) (ds : List Value) (hv : VlC V v ds) (N : Nat) (hN : N = w.heap.size) (hx : a.eval x = .slice (some ⟨N, 0, none⟩) 1 1) (hn : l5.length + 1 ≤ 1256584717458)
    (h : ∀ g n cap w', CgS V W l4 (l5 ++ [v]) s4 (.slice (some ⟨g, 0, none⟩) n cap) w' → wpList Try.prog ops Q rest (a.put o.dst (.slice (some ⟨g, 0, none⟩) n cap)) w') : wpList Try.prog ops Q (o :: rest) a (w.alloc (.cells ds.toArray 27)) := by
  obtain ⟨i, z, hi, hz, hsz, hb, hc⟩ := infoVz
  have hlt4 := hS.g4.lt
  have hlt5 := hS.g5.lt
  have d1 := hv.one
  have hone : ∀ u ∈ ds, u.oneCell' = true := fun u hu => (Array.all_eq_true_iff_forall_mem.1 d1) u (by simpa using hu)
  refine wp_grv hgd s x ho Try.underlying24 hi hz hsz hb hc (by omega) W.heap.size l5 s5 hs hS.g5 v ds hv hv.cells hone N hN hx (by omega) (by unfold maxLen; omega) hS.bel.size ?_
  intro g cap w' hg hgr hat hlt
  refine h g _ cap w' ⟨?_, hg, ?_, ?_⟩
  · refine (hS.g4.kept (World.grownBy_alloc w _ none) (by cases hv : s4.ownBlock <;> simp)).kept hgr ?_
    cases h4 : s4.ownBlock with
    | none => exact .inl rfl
    | some b => exact .inr (fun e => hS.ne b h4 e.symm)
  · intro b hb' h5
    have h5 : g = b := by simpa [Value.ownBlock] using h5
    subst h5
    rcases hat with hat | hat
    · exact hS.ne _ hb' hat
    · have := (hlt4 _ hb').2; omega
  · exact (hS.bel.alloc hS.bel.size _).grown hgr (by have := hS.bel.size; simp; omega) (fun k hk => (hlt5 k hk).1)
end Go.Proofs.Ythpcpminikmcbaa.og
namespace Go.Proofs.Ythpcpminikmcbaa.og
open Go.ChangeShapes Go.WideShapes Go.ChangeAt Go.RowKit
open vl hiding cB cFl cS cF cI cK cIt
open stp (St)
set_option linter.unusedVariables false
set_option linter.unusedSimpArgs false
def CgAt (v : Vl) : Prop := ∀ (V : World) (cs : List Value) (w : World), Below V.heap.size V w → VlC V v cs → Calls Try.prog 54 #[.agg cs.toArray] w fun e w' => ∃ s4 s5, e = .returned (.tuple #[s4, s5]) ∧ CgS V w ((kids v).map Prod.fst) ((kids v).map Prod.snd) s4 s5 w'
theorem kids5_get {b : Bool} {n : Int} {f : Nat} {tx ty : ByteArray} {its : Vls} {fls : Fls} {k : Nat} {v : Vl} (h : its.list[k]? = some v) : (kids (.mk 5 b n f tx ty its fls))[k]? = some (⟨⟨#[]⟩, (k : Int), true⟩, v) := by
  simp [kids, List.getElem?_zipIdx, h]
theorem kids6_get {b : Bool} {n : Int} {f : Nat} {tx ty : ByteArray} {its : Vls} {fls : Fls} {k : Nat} {nm : ByteArray} {v : Vl} (h : fls.list[k]? = some (nm, v)) : (kids (.mk 6 b n f tx ty its fls))[k]? = some (⟨nm, 0, false⟩, v) := by
  simp [kids, h]
theorem kids5_len (b : Bool) (n : Int) (f : Nat) (tx ty : ByteArray) (its : Vls) (fls : Fls) : (kids (.mk 5 b n f tx ty its fls)).length = its.list.length := by simp [kids]
theorem kids6_len (b : Bool) (n : Int) (f : Nat) (tx ty : ByteArray) (its : Vls) (fls : Fls) : (kids (.mk 6 b n f tx ty its fls)).length = fls.list.length := by simp [kids]
theorem kids_0 {kd : Int} {b : Bool} {n : Int} {f : Nat} {tx ty : ByteArray} {its : Vls} {fls : Fls} (h5 : kd ≠ 5) (h6 : kd ≠ 6) : kids (.mk kd b n f tx ty its fls) = [] := by simp [kids, h5, h6]
theorem CgS.older {V W W' w : World} {l4 : List St} {l5 : List Vl} {s4 s5 : Value} (h : CgS V W' l4 l5 s4 s5 w) (hb : Below W.heap.size W W') : CgS V W l4 l5 s4 s5 w := by
  have hs := hb.size
  have wk : ∀ {t : TypeId} {size : Nat} {sl : Value} {n : Nat} {xs : List Value}, w.ownsRow W'.heap.size t size sl n xs → w.ownsRow W.heap.size t size sl n xs := fun {t size sl n xs} h => ⟨h.1, h.2.imp id (fun ⟨g, cap, cur, e, hg, r⟩ => ⟨g, cap, cur, e, by omega, r⟩)⟩
  obtain ⟨⟨x4, a4, b4⟩, ⟨x5, a5, b5⟩, ne, bel⟩ := h
  exact ⟨⟨x4, wk a4, b4⟩, ⟨x5, wk a5, b5⟩, ne, hb.trans (bel.mono hs)⟩
set_option maxHeartbeats 8000000 in
set_option maxRecDepth 6000 in
theorem cg_5 (b : Bool) (n : Int) (f : Nat) (tx ty : ByteArray) (its : Vls) (fls : Fls) (hsl : its.list.length ≤ 1256584717458) : CgAt (.mk 5 b n f tx ty its fls) := by
  intro V cs w hVw hv
  have gv := hv
  unfold VlC at gv
  obtain ⟨ai, ni, ci, af, nf, cf, rfl, vI, vF, q1, q2, q3, q4, q5, q6, q7, q8, q9, q10⟩ := gv
  obtain ⟨W, eW⟩ : ∃ W, W = w.alloc (.cells #[.int .i64 5, .bool b, .int .i64 n, .float .f64 f, .string tx, .string ty, .slice ai ni ci, .slice af nf cf] 27) := ⟨_, rfl⟩
  have BW : Below w.heap.size w W := by rw [eW]; exact (Below.refl _ _).alloc (Nat.le_refl _) _
  have R_a := hide (show Row8 W w.heap.size 0 [.int .i64 5, .bool b, .int .i64 n, .float .f64 f, .string tx, .string ty, .slice ai ni ci, .slice af nf cf] from fun j x hx => by
    rw [eW, Nat.zero_add, World.cell?_alloc_at _ _ _ _ rfl]; simpa using hx)
  have V_a := hide (VlC.below BW _ _ (VlC.below hVw _ _ hv))
  have EW := hide eW
  clear eW q5 q6 q7 q8
  go_enter Try.func54, Try.ntmps54
  go_wp2_with (rw [← unhide EW]; refine wpList_load_mid (by rfl) 27 _ (by rfl) w.heap.size 0 (by rfl) [.int .i64 5, .bool b, .int .i64 n, .float .f64 f, .string tx, .string ty, .slice ai ni ci, .slice af nf cf] _ (unhide R_a) Try.underlying27 (by rfl) infoV ?_)
  clear EW
  refine (rkind_ok (.mk 5 b n f tx ty its fls) _ _ _ (unhide V_a)).mono ?_
  rintro e w1 ⟨rfl, g⟩
  rw [show kdV (Vl.mk 5 b n f tx ty its fls) = 5 from (by decide : kdOf 5 = 5)]
  have R_a := hide (Row8.below (unhide R_a) g)
  have BW : Below w.heap.size w w1 := BW.trans (g.mono BW.size)
  have HBW := hide BW
  have HI := hide vI
  have HF := hide vF
  have HVW := hide hVw
  have HVW1 := hide (show Below V.heap.size V w1 from hVw.trans (BW.mono hVw.size))
  clear g V_a hv vI vF
  have x : w1.cell? ⟨w.heap.size, 6, none⟩ = some (.slice ai ni ci) := (unhide R_a) 6 _ rfl
  have l1 := VlsAt.len its _ _ (unhide HI)
  have BN : ni ≤ 1256584717458 := by omega
  have L1 := hide l1
  have HN0 := hide (CgS.nil V w1)
  have LK := hide ((kids5_len b n f tx ty its fls).trans l1)
  have HK := hide (fun (k : Nat) => @kids5_get b n f tx ty its fls k)
  clear l1
  obtain ⟨ks, eks⟩ : ∃ ks, ks = kids (.mk 5 b n f tx ty its fls) := ⟨_, rfl⟩
  rw [← eks] at LK HK
  have EKS := hide eks
  clear eks
  go_wp2_with fail
  go_loopw [6, 4, 5] (fun vi v4 v5 wr => ∃ (k : Nat) (s4 s5 : Value), k ≤ ni ∧ vi = .int .i64 k ∧ v4 = s4 ∧ v5 = s5 ∧ vl.Hid (CgS V w1 ((ks.take k).map Prod.fst) ((ks.take k).map Prod.snd) s4 s5 wr)) (fun vi _ _ _ => ni - (intOf vi).toNat)
  case atStart => exact ⟨0, _, _, Nat.zero_le _, rfl, rfl, rfl, by rw [List.take_zero]; exact HN0⟩
  case round =>
    clear x HN0
    obtain ⟨k, s4, s5, hk1, rfl, rfl, rfl, HS⟩ := hrel
    have x : wr.cell? ⟨w.heap.size, 6, none⟩ = some (.slice ai ni ci) := (Row8.below (unhide R_a) (unhide HS).bel) 6 _ rfl
    by_cases hlt : k < ni
    · have ki : (k : Int) < (ni : Int) := by omega
      obtain ⟨p, off, v, us, rfl, hg, hr, hv⟩ := VlsAt.get its _ _ (unhide HI) k hlt
      have Hg := hide (unhide HK k hg)
      have iu : (Try.prog.info? 27).map (·.size) = some us.length := by rw [hv.cells]; exact infoV
      have hr := Row8.below hr (unhide HVW1)
      have hbS := buildS (Value.string { data := #[] }) (Value.int .i64 k) (Value.bool true) ⟨_, rfl⟩ ⟨_, rfl⟩ ⟨_, rfl⟩
      have hbV := buildV hv
      have hn4 : ((ks.take k).map Prod.fst).length + 1 ≤ 1256584717458 := by have h1 := List.length_take_le k ks; rw [List.length_map]; omega
      have hn5 : ((ks.take k).map Prod.snd).length + 1 ≤ 1256584717458 := by have h1 := List.length_take_le k ks; rw [List.length_map]; omega
      have A := hide (And.intro hr (And.intro hv (And.intro iu (And.intro True.intro (And.intro hbS (And.intro hbV (And.intro hn4 hn5)))))))
      clear hr hv iu hbS hbV hn4 hn5 hg
      go_wp2_with (first
        | refine wpList_buildOne (by rfl) 29 _ (by rfl) (.agg #[Value.string { data := #[] }, Value.int .i64 k, Value.bool true]) _ (by rfl) ((unhide A).2.2.2.2.1 wr) ?_
        | (at_builtin; refine wp_cg4 (unhide HS) (by rfl) _ _ (by rfl) (by rfl) ⟨⟨#[]⟩, (k : Int), true⟩ [Value.string { data := #[] }, Value.int .i64 k, Value.bool true] rfl wr.heap.size rfl (by rfl) (unhide A).2.2.2.2.2.2.1 ?_; intro g4 n4 c4 w3 hS3; have x3 : w3.cell? ⟨w.heap.size, 6, none⟩ = some (.slice (some ⟨p, off, none⟩) ni ci) := (Row8.below (unhide R_a) hS3.bel) 6 _ rfl; have HS3 := hide hS3; clear hS3)
        | refine wpList_load_mid (by rfl) 27 _ (by rfl) p (off + k * 8) (by rfl) us _ (Row8.below (unhide A).1 (unhide HS3).bel) Try.underlying27 (by rfl) (unhide A).2.2.1 ?_
        | refine wpList_buildOne (by rfl) 24 _ (by rfl) (.agg us.toArray) _ (by rfl) ((unhide A).2.2.2.2.2.1 w3) ?_
        | (at_builtin; refine wp_cg5 (unhide HS3) (by rfl) _ _ (by rfl) (by rfl) v us (unhide A).2.1 w3.heap.size rfl (by rfl) (unhide A).2.2.2.2.2.2.2 ?_; intro g5 n5 c5 w4 hS4; have HS4 := hide hS4; clear hS4))
      go_roundw
      case rel => exact ⟨k + 1, _, _, by omega, by go_num, rfl, rfl, by rw [List.take_add_one, unhide Hg, List.map_append, List.map_append]; exact HS4⟩
      case measure => simp [intOf]; omega
    · obtain rfl : k = ni := by omega
      have hS := unhide HS
      rw [List.take_of_length_le (Nat.le_of_eq (unhide LK))] at hS
      have HR := hide (hS.older (unhide HBW))
      clear hS HS
      go_wp2
      go_ret2
      rw [← unhide EKS]
      exact ⟨_, _, rfl, unhide HR⟩
set_option maxHeartbeats 8000000 in
set_option maxRecDepth 6000 in
theorem cg_6 (b : Bool) (n : Int) (f : Nat) (tx ty : ByteArray) (its : Vls) (fls : Fls) (hsl : fls.list.length ≤ 1099511627776) : CgAt (.mk 6 b n f tx ty its fls) := by
  intro V cs w hVw hv
  have gv := hv
  unfold VlC at gv
  obtain ⟨ai, ni, ci, af, nf, cf, rfl, vI, vF, q1, q2, q3, q4, q5, q6, q7, q8, q9, q10⟩ := gv
  obtain ⟨W, eW⟩ : ∃ W, W = w.alloc (.cells #[.int .i64 6, .bool b, .int .i64 n, .float .f64 f, .string tx, .string ty, .slice ai ni ci, .slice af nf cf] 27) := ⟨_, rfl⟩
  have BW : Below w.heap.size w W := by rw [eW]; exact (Below.refl _ _).alloc (Nat.le_refl _) _
  have R_a := hide (show Row8 W w.heap.size 0 [.int .i64 6, .bool b, .int .i64 n, .float .f64 f, .string tx, .string ty, .slice ai ni ci, .slice af nf cf] from fun j x hx => by
    rw [eW, Nat.zero_add, World.cell?_alloc_at _ _ _ _ rfl]; simpa using hx)
  have V_a := hide (VlC.below BW _ _ (VlC.below hVw _ _ hv))
  have EW := hide eW
  clear eW q5 q6 q7 q8
  go_enter Try.func54, Try.ntmps54
  go_wp2_with (rw [← unhide EW]; refine wpList_load_mid (by rfl) 27 _ (by rfl) w.heap.size 0 (by rfl) [.int .i64 6, .bool b, .int .i64 n, .float .f64 f, .string tx, .string ty, .slice ai ni ci, .slice af nf cf] _ (unhide R_a) Try.underlying27 (by rfl) infoV ?_)
  clear EW
  refine (rkind_ok (.mk 6 b n f tx ty its fls) _ _ _ (unhide V_a)).mono ?_
  rintro e w1 ⟨rfl, g⟩
  rw [show kdV (Vl.mk 6 b n f tx ty its fls) = 6 from (by decide : kdOf 6 = 6)]
  have R_a := hide (Row8.below (unhide R_a) g)
  have BW : Below w.heap.size w w1 := BW.trans (g.mono BW.size)
  have HBW := hide BW
  have HI := hide vI
  have HF := hide vF
  have HVW := hide hVw
  have HVW1 := hide (show Below V.heap.size V w1 from hVw.trans (BW.mono hVw.size))
  clear g V_a hv vI vF
  have x : w1.cell? ⟨w.heap.size, 7, none⟩ = some (.slice af nf cf) := (unhide R_a) 7 _ rfl
  have l1 := FlsAt.len fls _ _ (unhide HF)
  have BN : nf ≤ 1256584717458 := by omega
  have L1 := hide l1
  have HN0 := hide (CgS.nil V w1)
  have LK := hide ((kids6_len b n f tx ty its fls).trans l1)
  have HK := hide (fun (k : Nat) => @kids6_get b n f tx ty its fls k)
  clear l1
  obtain ⟨ks, eks⟩ : ∃ ks, ks = kids (.mk 6 b n f tx ty its fls) := ⟨_, rfl⟩
  rw [← eks] at LK HK
  have EKS := hide eks
  clear eks
  go_wp2_with fail
  go_loopw [7, 4, 5] (fun vi v4 v5 wr => ∃ (k : Nat) (s4 s5 : Value), k ≤ nf ∧ vi = .int .i64 k ∧ v4 = s4 ∧ v5 = s5 ∧ vl.Hid (CgS V w1 ((ks.take k).map Prod.fst) ((ks.take k).map Prod.snd) s4 s5 wr)) (fun vi _ _ _ => nf - (intOf vi).toNat)
  case atStart => exact ⟨0, _, _, Nat.zero_le _, rfl, rfl, rfl, by rw [List.take_zero]; exact HN0⟩
  case round =>
    clear x HN0
    obtain ⟨k, s4, s5, hk1, rfl, rfl, rfl, HS⟩ := hrel
    have x : wr.cell? ⟨w.heap.size, 7, none⟩ = some (.slice af nf cf) := (Row8.below (unhide R_a) (unhide HS).bel) 7 _ rfl
    by_cases hlt : k < nf
    · have ki : (k : Int) < (nf : Int) := by omega
      obtain ⟨p, off, nm, v, us, rfl, hg, hn0, hz, hr, hv⟩ := FlsAt.get fls _ _ (unhide HF) k hlt
      have Hg := hide (unhide HK k hg)
      have hn1 : w1.cell? ⟨p, off + k * 9, none⟩ = some (.string nm) := (Below.cell (unhide HVW1) (p := ⟨p, off + k * 9, none⟩) (World.block_lt_of_cell? V _ hn0)).trans hn0
      have cn : wr.cell? ⟨p, off + k * 9, none⟩ = some (.string nm) := (Below.cell (unhide HS).bel (p := ⟨p, off + k * 9, none⟩) (World.block_lt_of_cell? w1 _ hn1)).trans hn1
      clear hn0 hn1
      have iu : (Try.prog.info? 27).map (·.size) = some us.length := by rw [hv.cells]; exact infoV
      have hr := Row8.below hr (unhide HVW1)
      have hbS := buildS (Value.string nm) (Value.int .i64 0) (Value.bool false) ⟨_, rfl⟩ ⟨_, rfl⟩ ⟨_, rfl⟩
      have hbV := buildV hv
      have hn4 : ((ks.take k).map Prod.fst).length + 1 ≤ 1256584717458 := by have h1 := List.length_take_le k ks; rw [List.length_map]; omega
      have hn5 : ((ks.take k).map Prod.snd).length + 1 ≤ 1256584717458 := by have h1 := List.length_take_le k ks; rw [List.length_map]; omega
      have A := hide (And.intro hr (And.intro hv (And.intro iu (And.intro True.intro (And.intro hbS (And.intro hbV (And.intro hn4 hn5)))))))
      clear hr hv iu hbS hbV hn4 hn5 hg
      go_wp2_with (first
        | refine wpList_buildOne (by rfl) 29 _ (by rfl) (.agg #[Value.string nm, Value.int .i64 0, Value.bool false]) _ (by rfl) ((unhide A).2.2.2.2.1 wr) ?_
        | (at_builtin; refine wp_cg4 (unhide HS) (by rfl) _ _ (by rfl) (by rfl) ⟨nm, 0, false⟩ [Value.string nm, Value.int .i64 0, Value.bool false] rfl wr.heap.size rfl (by rfl) (unhide A).2.2.2.2.2.2.1 ?_; intro g4 n4 c4 w3 hS3; have x3 : w3.cell? ⟨w.heap.size, 7, none⟩ = some (.slice (some ⟨p, off, none⟩) nf cf) := (Row8.below (unhide R_a) hS3.bel) 7 _ rfl; have HS3 := hide hS3; clear hS3)
        | refine wpList_load_mid (by rfl) 27 _ (by rfl) p (off + k * 9 + 1) (by rfl) us _ (Row8.below (unhide A).1 (unhide HS3).bel) Try.underlying27 (by rfl) (unhide A).2.2.1 ?_
        | refine wpList_buildOne (by rfl) 24 _ (by rfl) (.agg us.toArray) _ (by rfl) ((unhide A).2.2.2.2.2.1 w3) ?_
        | (at_builtin; refine wp_cg5 (unhide HS3) (by rfl) _ _ (by rfl) (by rfl) v us (unhide A).2.1 w3.heap.size rfl (by rfl) (unhide A).2.2.2.2.2.2.2 ?_; intro g5 n5 c5 w4 hS4; have HS4 := hide hS4; clear hS4))
      go_roundw
      case rel => exact ⟨k + 1, _, _, by omega, by go_num, rfl, rfl, by rw [List.take_add_one, unhide Hg, List.map_append, List.map_append]; exact HS4⟩
      case measure => simp [intOf]; omega
    · obtain rfl : k = nf := by omega
      have hS := unhide HS
      rw [List.take_of_length_le (Nat.le_of_eq (unhide LK))] at hS
      have HR := hide (hS.older (unhide HBW))
      clear hS HS
      go_wp2
      go_ret2
      rw [← unhide EKS]
      exact ⟨_, _, rfl, unhide HR⟩
set_option maxHeartbeats 8000000 in
set_option maxRecDepth 6000 in
theorem cg_0 (kd : Int) (b : Bool) (n : Int) (f : Nat) (tx ty : ByteArray) (its : Vls) (fls : Fls) (K : Int) (hk : kdOf kd = K) (h5 : K ≠ 5) (h6 : K ≠ 6) : CgAt (.mk kd b n f tx ty its fls) := by
  intro V cs w hVw hv
  have gv := hv
  unfold VlC at gv
  obtain ⟨ai, ni, ci, af, nf, cf, rfl, vI, vF, q1, q2, q3, q4, q5, q6, q7, q8, q9, q10⟩ := gv
  obtain ⟨W, eW⟩ : ∃ W, W = w.alloc (.cells #[.int .i64 kd, .bool b, .int .i64 n, .float .f64 f, .string tx, .string ty, .slice ai ni ci, .slice af nf cf] 27) := ⟨_, rfl⟩
  have BW : Below w.heap.size w W := by rw [eW]; exact (Below.refl _ _).alloc (Nat.le_refl _) _
  have R_a := hide (show Row8 W w.heap.size 0 [.int .i64 kd, .bool b, .int .i64 n, .float .f64 f, .string tx, .string ty, .slice ai ni ci, .slice af nf cf] from fun j x hx => by
    rw [eW, Nat.zero_add, World.cell?_alloc_at _ _ _ _ rfl]; simpa using hx)
  have V_a := hide (VlC.below BW _ _ (VlC.below hVw _ _ hv))
  have EW := hide eW
  clear eW q5 q6 q7 q8
  go_enter Try.func54, Try.ntmps54
  go_wp2_with (rw [← unhide EW]; refine wpList_load_mid (by rfl) 27 _ (by rfl) w.heap.size 0 (by rfl) [.int .i64 kd, .bool b, .int .i64 n, .float .f64 f, .string tx, .string ty, .slice ai ni ci, .slice af nf cf] _ (unhide R_a) Try.underlying27 (by rfl) infoV ?_)
  clear EW
  refine (rkind_ok (.mk kd b n f tx ty its fls) _ _ _ (unhide V_a)).mono ?_
  rintro e w1 ⟨rfl, g⟩
  rw [show kdV (Vl.mk kd b n f tx ty its fls) = K from hk]
  have R_a := hide (Row8.below (unhide R_a) g)
  have BW : Below w.heap.size w w1 := BW.trans (g.mono BW.size)
  have HBW := hide BW
  have HI := hide vI
  have HF := hide vF
  have HVW := hide hVw
  have HVW1 := hide (show Below V.heap.size V w1 from hVw.trans (BW.mono hVw.size))
  clear g V_a hv vI vF
  have h5' : kd ≠ 5 := fun e => h5 (by rw [← hk, e]; decide)
  have h6' : kd ≠ 6 := fun e => h6 (by rw [← hk, e]; decide)
  go_wp2
  go_ret2
  rw [kids_0 h5' h6']
  exact ⟨_, _, rfl, (CgS.nil V w1).older (unhide HBW)⟩
theorem cg_ok (v : Vl) (hv : Small v) : CgAt v := by
  obtain ⟨kd, b, n, f, tx, ty, its, fls⟩ := v
  unfold Small at hv
  by_cases h5 : kdOf kd = 5
  · obtain rfl := kdOf_five h5
    exact cg_5 _ _ _ _ _ _ _ hv.1
  · by_cases h6 : kdOf kd = 6
    · obtain rfl := kdOf_six h6
      exact cg_6 _ _ _ _ _ _ _ hv.2.1
    · exact cg_0 _ _ _ _ _ _ _ _ _ rfl h5 h6
end Go.Proofs.Ythpcpminikmcbaa.og
