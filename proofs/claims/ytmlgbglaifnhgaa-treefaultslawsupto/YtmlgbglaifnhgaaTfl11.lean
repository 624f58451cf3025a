import Derived.Test.YtmlgbglaifnhgaaTfl10
import Derived.Test.YtmlgbglaifnhgaaTfl8
import Derived.Test.YtmlgbglaifnhgaaTfl3
import Derived.Test.YtmlgbglaifnhgaaRows
namespace Go.Proofs.Ytmlgbglaifnhgaa.og
open Go.ChangeShapes Go.WideShapes Go.ChangeAt Go.RowKit Go.Shelf
open vl hiding cB cFl cS cF cI cK cIt
open stp (St Pth St3 c3 c3_lt c3_gt c3_eq lexS)
set_option linter.unusedVariables false
set_option linter.unusedSimpArgs false
def mkFb {w : World} (f : Ft) (cs : List Value) (hc : FtC w f cs) : Fb w := ⟨(f, cs), hc⟩
theorem fbs_of {w : World} : ∀ (R : List Ft) (P : Nat → List Value → Prop), (∀ (k : Nat) (f : Ft), R[k]? = some f → ∃ cs, P k cs ∧ FtC w f cs) → ∃ l : List (Fb w), l.map Fb.ft = R ∧ ∀ (k : Nat) (x : Fb w), l[k]? = some x → P k x.enc
  | [], P, _ => ⟨[], rfl, fun k x h => by simp at h⟩
  | f :: R, P, h => by
    obtain ⟨cs, hp, hc⟩ := h 0 f rfl
    obtain ⟨l, hl, hk⟩ := fbs_of R (fun k => P (k + 1)) (fun k g hg => h (k + 1) g (by simpa using hg))
    refine ⟨mkFb f cs hc :: l, by rw [List.map_cons, hl]; rfl, fun k x hx => ?_⟩
    cases k with
    | zero => simp at hx; subst hx; exact hp
    | succ k => exact hk k x (by simpa using hx)
theorem FtsR.fbs {w : World} {a : Option Addr} {n c : Nat} {R : List Ft} (h : FtsR w a n c R) : ∃ l : List (Fb w), FbsAt w a n c l ∧ l.map Fb.ft = R := by
  rcases h.at_ with h0 | ⟨b, off, ha, hlt, hc⟩
  · have e : R = [] := List.length_eq_zero_iff.1 (h.len.trans h0)
    exact ⟨[], ⟨by simp [h0], h.le, h.nil, .inl h0⟩, by rw [e]; rfl⟩
  · obtain ⟨l, hl, hk⟩ := fbs_of R (fun k cs => w.rangeAt b (off + k * 3) cs) hc
    exact ⟨l, ⟨by rw [← h.len, ← hl, List.length_map], h.le, h.nil, .inr ⟨b, off, ha, hlt, hk⟩⟩, hl⟩
/-- Faults answers the union of these faults -/
def UniP (ins : List Ft) (m : Nat) (w : World) (e : Ending) (w' : World) : Prop := ∃ (aj : Option Addr) (nj cj : Nat) (R : List Ft), Rs ins R ∧ nj ≤ m ∧ e = .returned (.slice aj nj cj) ∧ FtsR w' aj nj cj R ∧ Below w.heap.size w w'
theorem uni_of {w : World} {LL : List (List (Fb w))} {ins : List Ft} {m : Nat} (hi : LL.flatten.map Fb.ft = ins) (hm : LL.flatten.length ≤ m) {e : Ending} {w' : World} (h : FltP w LL e w') : UniP ins m w e w' := by
  obtain ⟨aj, nj, cj, S, hp, hs, rfl, hR, hb⟩ := h
  refine ⟨aj, nj, cj, _, ?_, ?_, rfl, hR, hb⟩
  · rw [← hi]; exact rs_of hp hs
  · have := hR.len
    rw [List.length_map] at this
    have h1 := cpt_le S
    have h2 := hp.length_eq
    omega
theorem faults1 (w : World) (p : Nat) (a : Option Addr) (n c : Nat) (R : List Ft) (hp : p < w.heap.size) (h0 : w.cell? ⟨p, 0, none⟩ = some (.slice a n c)) (hR : FtsR w a n c R) (hn : n ≤ 1048576) : Calls Try.prog 19 #[.slice (some ⟨p, 0, none⟩) 1 1] w (UniP R n w) := by
  obtain ⟨l, hl, hm⟩ := hR.fbs
  have hf : ([l] : List (List (Fb w))).flatten = l := by simp
  refine (faults_ok w [l] (some ⟨p, 0, none⟩) 1 1 ⟨rfl, .inr ⟨p, 0, rfl, hp, fun i x hx => ?_⟩⟩ (by rw [hf, hl.len]; exact hn) (by omega)).mono (fun e w' h => uni_of (by rw [hf]; exact hm) (by rw [hf, hl.len]; exact Nat.le_refl _) h)
  cases i with
  | zero => simp at hx; subst hx; exact ⟨a, n, c, h0, hl⟩
  | succ i => simp at hx
theorem faults2 (w : World) (p : Nat) (a : Option Addr) (n c : Nat) (R : List Ft) (a' : Option Addr) (n' c' : Nat) (R' : List Ft) (hp : p < w.heap.size) (h0 : w.cell? ⟨p, 0, none⟩ = some (.slice a n c)) (h1 : w.cell? ⟨p, 1, none⟩ = some (.slice a' n' c')) (hR : FtsR w a n c R) (hR' : FtsR w a' n' c' R') (hn : n + n' ≤ 1048576) : Calls Try.prog 19 #[.slice (some ⟨p, 0, none⟩) 2 2] w (UniP (R ++ R') (n + n') w) := by
  obtain ⟨l, hl, hm⟩ := hR.fbs
  obtain ⟨l', hl', hm'⟩ := hR'.fbs
  have hf : ([l, l'] : List (List (Fb w))).flatten = l ++ l' := by simp
  have hs : (l ++ l').length = n + n' := by rw [List.length_append, hl.len, hl'.len]
  refine (faults_ok w [l, l'] (some ⟨p, 0, none⟩) 2 2 ⟨rfl, .inr ⟨p, 0, rfl, hp, fun i x hx => ?_⟩⟩ (by rw [hf, hs]; exact hn) (by omega)).mono (fun e w' h => uni_of (by rw [hf, List.map_append, hm, hm']) (by rw [hf, hs]; exact Nat.le_refl _) h)
  match i, hx with
  | 0, hx => simp at hx; subst hx; exact ⟨a, n, c, h0, hl⟩
  | 1, hx => simp at hx; subst hx; exact ⟨a', n', c', h1, hl'⟩
  | i + 2, hx => simp at hx
/-- the laws of the union -/
theorem rs_swap {A B R S : List Ft} (h : Rs (A ++ B) R) (k : Rs (B ++ A) S) : R = S := rs_unique h k (fun f => by simp only [List.mem_append]; constructor <;> (rintro ⟨g, hg, e⟩; exact ⟨g, hg.symm, e⟩))
theorem rs_self {A B R S : List Ft} (h : Rs (A ++ B) R) (k : Rs (R ++ A) S) : R = S := rs_unique h k (fun f => by
  constructor
  · rintro ⟨g, hg, e⟩
    exact ⟨can g, List.mem_append.2 (.inl ((h.mem _).2 ⟨g, hg, rfl⟩)), by rw [can_can]; exact e⟩
  · rintro ⟨g, hg, e⟩
    rcases List.mem_append.1 hg with hg | hg
    · obtain ⟨x, hx, rfl⟩ := (h.mem g).1 hg
      exact ⟨x, hx, by rw [can_can] at e; exact e⟩
    · exact ⟨g, List.mem_append.2 (.inl hg), e⟩)
theorem rs_steps {A B R P Q S : List Ft} (h : Rs (A ++ B) R) (p : Rs A P) (q : Rs B Q) (k : Rs (P ++ Q) S) : R = S := rs_unique h k (fun f => by
  constructor
  · rintro ⟨g, hg, e⟩
    rcases List.mem_append.1 hg with hg | hg
    · exact ⟨can g, List.mem_append.2 (.inl ((p.mem _).2 ⟨g, hg, rfl⟩)), by rw [can_can]; exact e⟩
    · exact ⟨can g, List.mem_append.2 (.inr ((q.mem _).2 ⟨g, hg, rfl⟩)), by rw [can_can]; exact e⟩
  · rintro ⟨g, hg, e⟩
    rcases List.mem_append.1 hg with hg | hg
    · obtain ⟨x, hx, rfl⟩ := (p.mem g).1 hg
      exact ⟨x, List.mem_append.2 (.inl hx), by rw [can_can] at e; exact e⟩
    · obtain ⟨x, hx, rfl⟩ := (q.mem g).1 hg
      exact ⟨x, List.mem_append.2 (.inr hx), by rw [can_can] at e; exact e⟩)
theorem lexS_can (f : Ft) : lexS (can f).pt f.pt = 0 ∧ lexS f.pt (can f).pt = 0 := by
  have e : (can f).pt.map pl = f.pt.map pl := by show ((f.pt.map pl).map pl) = _; rw [List.map_map]; exact List.map_congr_left (fun s _ => pl_pl s)
  constructor
  · rw [← lexS_pl, e]; exact stp.lex_self _
  · rw [← lexS_pl, e]; exact stp.lex_self _
theorem rs_has {ins R : List Ft} (h : Rs ins R) {f : Ft} (hf : f ∈ ins) : InF f R := ⟨can f, (h.mem _).2 ⟨f, hf, rfl⟩, rfl, rfl, (lexS_can f).1⟩
theorem rs_from {A B R : List Ft} (h : Rs (A ++ B) R) {f : Ft} (hf : f ∈ R) (hn : ¬ InF f A) : InF f B := by
  obtain ⟨g, hg, rfl⟩ := (h.mem f).1 hf
  rcases List.mem_append.1 hg with hg | hg
  · exact absurd ⟨g, hg, rfl, rfl, (lexS_can g).2⟩ hn
  · exact ⟨g, hg, rfl, rfl, (lexS_can g).2⟩
theorem rs_next {ins R : List Ft} (h : Rs ins R) {k : Nat} {f g : Ft} (hf : R[k]? = some f) (hg : R[k + 1]? = some g) : f.kd ≤ g.kd ∧ f ≠ g := by
  have hp := h.ris
  unfold Ris at hp
  rw [List.pairwise_iff_getElem] at hp
  obtain ⟨i1, e1⟩ := List.getElem?_eq_some_iff.1 hf
  obtain ⟨i2, e2⟩ := List.getElem?_eq_some_iff.1 hg
  have := hp k (k + 1) i1 i2 (by omega)
  rw [e1, e2] at this
  constructor
  · by_cases hk : f.kd ≤ g.kd
    · exact hk
    · have h1 : c3 f.kd g.kd = 1 := c3_gt (by omega)
      unfold cF thn at this
      rw [h1] at this
      simp at this
  · rintro rfl
    rw [cF_self] at this
    omega
end Go.Proofs.Ytmlgbglaifnhgaa.og
namespace Go.Proofs.Ytmlgbglaifnhgaa.og
open Go.ChangeShapes Go.WideShapes Go.ChangeAt Go.RowKit Go.Shelf
open vl hiding cB cFl cS cF cI cK cIt
open stp (St Pth St3 c3 c3_lt c3_gt c3_eq lexS)
set_option linter.unusedVariables false
set_option linter.unusedSimpArgs false
def oneF : Ft := ⟨7, [], [⟨⟨#[120]⟩, 0, false⟩]⟩
theorem one_can : can oneF = oneF := by rfl
theorem rs_one {R : List Ft} (h : Rs [oneF] R) : R = [oneF] := by
  refine ris_eq h.ris (List.pairwise_singleton _ _) (fun f => (h.mem f).trans ?_)
  simp [one_can]
def one1 (w : World) : World := w.alloc (.cells #[Value.string ⟨#[120]⟩, Value.int IntKind.i64 0, Value.bool false] 34)
def one2 (w : World) : World := (one1 w).alloc (.cells #[Value.int IntKind.i64 7, Value.slice none 0 0, Value.slice (some ⟨w.heap.size, 0, none⟩) 1 1] 55)
def one3 (w : World) : World := (one2 w).alloc (.cells #[Value.slice (some ⟨w.heap.size + 1, 0, none⟩) 1 1] 50)
theorem one_s1 (w : World) : (one1 w).heap.size = w.heap.size + 1 := by simp [one1]
theorem one_s2 (w : World) : (one2 w).heap.size = w.heap.size + 1 + 1 := by simp [one2, one_s1]
theorem one_s3 (w : World) : (one3 w).heap.size = w.heap.size + 1 + 1 + 1 := by simp [one3, one_s2]
theorem one_b1 (w : World) : Below w.heap.size w (one1 w) := (Below.refl _ _).alloc (Nat.le_refl _) _
theorem one_b2 (w : World) : Below (w.heap.size + 1) (one1 w) (one2 w) := (Below.refl _ _).alloc (by rw [one_s1]; exact Nat.le_refl _) _
theorem one_b3 (w : World) : Below (w.heap.size + 1 + 1) (one2 w) (one3 w) := (Below.refl _ _).alloc (by rw [one_s2]; exact Nat.le_refl _) _
theorem one_b (w : World) : Below w.heap.size w (one3 w) := ((one_b1 w).trans ((one_b2 w).mono (by omega))).trans ((one_b3 w).mono (by omega))
theorem one_l (w : World) : (one3 w).cell? ⟨w.heap.size + 1 + 1, 0, none⟩ = some (.slice (some ⟨w.heap.size + 1, 0, none⟩) 1 1) := by unfold one3; rw [World.cell?_alloc_at _ _ _ _ (one_s2 w).symm]; rfl
theorem one_r (w : World) : (one3 w).rangeAt (w.heap.size + 1) 0 [Value.int IntKind.i64 7, Value.slice none 0 0, Value.slice (some ⟨w.heap.size, 0, none⟩) 1 1] := fun j u hu => by
  rw [Nat.zero_add]
  refine ((one_b3 w).cell (p := ⟨w.heap.size + 1, j, none⟩) (Nat.lt_succ_self _)).trans ?_
  unfold one2
  rw [World.cell?_alloc_at _ _ _ _ (one_s1 w).symm]
  simpa using hu
theorem one_q (w : World) : (one3 w).rangeAt w.heap.size 0 [Value.string ⟨#[120]⟩, Value.int IntKind.i64 0, Value.bool false] := fun j u hu => by
  rw [Nat.zero_add]
  refine ((((one_b2 w).trans ((one_b3 w).mono (by omega)))).cell (p := ⟨w.heap.size, j, none⟩) (Nat.lt_succ_self _)).trans ?_
  unfold one1
  rw [World.cell?_alloc_at _ _ _ _ rfl]
  simpa using hu
theorem one_c (w : World) : FtC (one3 w) oneF [Value.int IntKind.i64 7, Value.slice none 0 0, Value.slice (some ⟨w.heap.size, 0, none⟩) 1 1] := by
  refine ⟨none, 0, 0, some ⟨w.heap.size, 0, none⟩, 1, 1, rfl, ⟨rfl, .inl rfl⟩, ⟨rfl, .inr ⟨w.heap.size, 0, rfl, by rw [one_s3]; omega, fun k hk => ?_⟩⟩, by omega, by omega, by omega, by omega, fun _ => rfl, fun e => (by cases e), by decide, by decide⟩
  obtain rfl : k = 0 := by omega
  exact ⟨⟨⟨#[120]⟩, 0, false⟩, rfl, one_q w 0 _ rfl, one_q w 1 _ rfl, one_q w 2 _ rfl⟩
theorem one_f (w : World) : FtsR (one3 w) (some ⟨w.heap.size + 1, 0, none⟩) 1 1 [oneF] := by
  refine ⟨rfl, Nat.le_refl _, fun e => (by cases e), .inr ⟨_, _, rfl, by rw [one_s3]; omega, fun k f hf => ?_⟩⟩
  cases k with
  | zero => simp at hf; subst hf; exact ⟨_, by simpa using one_r w, one_c w⟩
  | succ k => simp at hf
set_option maxHeartbeats 2000000 in
set_option maxRecDepth 100000 in
theorem law_flaws (X Y : List Ft) (a0 a1 : Option Addr) (n0 c0 n1 c1 : Nat) (w : World) (hX : FtsR w a0 n0 c0 X) (hY : FtsR w a1 n1 c1 Y) (hn : n0 + n1 ≤ 524288) : Calls Try.prog 7 #[.slice a0 n0 c0, .slice a1 n1 c1] w fun e w' => e = .returned (.bool true) ∧ Below w.heap.size w w' := by
  have HX := hide hX
  have HY := hide hY
  clear hX hY
  go_enter Try.func7, Try.ntmps7
  go_wp2_with fail
  obtain ⟨V, eV⟩ : ∃ V, V = one3 w := ⟨_, rfl⟩
  have B1 : Below w.heap.size w V := by rw [eV]; exact one_b w
  have HO : vl.Hid (FtsR V (some ⟨w.heap.size + 1, 0, none⟩) 1 1 [oneF]) := hide (by rw [eV]; exact one_f w)
  have lo : w.heap.size + 1 < V.heap.size := by rw [eV, one_s3]; omega
  have CF := hide (show Calls Try.prog 19 #[.slice (some ⟨w.heap.size + 1 + 1, 0, none⟩) 1 1] V (UniP [oneF] 1 V) by rw [eV]; exact faults1 (one3 w) (w.heap.size + 1 + 1) _ 1 1 [oneF] (by rw [one_s3]; omega) (one_l w) (one_f w) (by omega))
  have eV' := eV
  unfold one3 one2 one1 at eV'
  rw [← eV']
  clear eV eV'
  refine (unhide CF).mono ?_
  clear CF
  rintro e U ⟨aj, nj, cj, R, hRs, hnj, rfl, hU, gU⟩
  obtain rfl := rs_one hRs
  obtain rfl : 1 = nj := hU.len
  clear hRs hnj
  obtain ⟨p, off, f, cs, rfl, hp, hf, hr, hc⟩ := hU.get (k := 0) (by omega)
  obtain rfl : oneF = f := by simpa using hf
  obtain ⟨p', off', f', ds, ep, hp', hf', hr', hc'⟩ := ((unhide HO).below gU).get (k := 0) (by omega)
  cases ep
  obtain rfl : oneF = f' := by simpa using hf'
  have SF := hide (fun W (hW : Below U.heap.size U W) => sameF_true oneF cs ds W (hc.below hW) (hc'.below hW))
  obtain ⟨ap, np, cp, aq, nq, cq, rfl, -⟩ := hc
  obtain ⟨bp, mp, dp, bq, mq, dq, rfl, -⟩ := hc'
  obtain ⟨K, eK⟩ : ∃ K, K = oneF.kd := ⟨_, rfl⟩
  rw [← eK] at hr hr' SF
  have x0 : U.cell? ⟨p, off, none⟩ = some (.int .i64 K) := by simpa using hr 0 _ rfl
  have x1 : U.cell? ⟨p, off + 1, none⟩ = some (.slice ap np cp) := by simpa using hr 1 _ rfl
  have x2 : U.cell? ⟨p, off + 2, none⟩ = some (.slice aq nq cq) := by simpa using hr 2 _ rfl
  have y0 : U.cell? ⟨w.heap.size + 1, 0, none⟩ = some (.int .i64 K) := by simpa using hr' 0 _ rfl
  have y1 : U.cell? ⟨w.heap.size + 1, 1, none⟩ = some (.slice bp mp dp) := by simpa using hr' 1 _ rfl
  have y2 : U.cell? ⟨w.heap.size + 1, 2, none⟩ = some (.slice bq mq dq) := by simpa using hr' 2 _ rfl
  have B2 := B1.trans (gU.mono B1.size)
  clear hr hr' hf hf' HO hU eK gU
  go_wp2_with fail
  have hS0 : Gr U { U with drawn := U.drawn + 1 } := (Gr.refl _).drew
  refine wp_region_noPanic ?_
  refine wp_region_held (S := fun w' => Below U.heap.size U w') mixed ?_
  replace hS0 := hS0.1
  refine wpAnyH_take (i := 0) (v := ?v1) rfl (by kernel_rfl) (by kernel_rfl) (by kernel_rfl) (fun _ _ _ h => h) (Or.inl ⟨by rfl, ?hy1⟩) hS0 ?_
  case hy1 => (intro w' hw'; have a0 := keepC hw' hp x0; have a1 := keepC hw' hp x1; have a2 := keepC hw' hp x2; have b0 := keepC hw' hp' y0; have b1 := keepC hw' hp' y1; have b2 := keepC hw' hp' y2; go_simp; try with_reducible rfl)
  simp only [List.getElem_toArray, List.getElem_cons_zero, List.getElem_cons_succ, Act.put, List.setIfInBounds_toArray, List.set_cons_zero, List.set_cons_succ]
  refine wpAnyH_take (i := 1) (v := ?v2) rfl (by kernel_rfl) (by kernel_rfl) (by kernel_rfl) (fun _ _ _ h => h) (Or.inl ⟨by rfl, ?hy2⟩) hS0 ?_
  case hy2 => (intro w' hw'; have a0 := keepC hw' hp x0; have a1 := keepC hw' hp x1; have a2 := keepC hw' hp x2; have b0 := keepC hw' hp' y0; have b1 := keepC hw' hp' y1; have b2 := keepC hw' hp' y2; go_simp; try with_reducible rfl)
  simp only [List.getElem_toArray, List.getElem_cons_zero, List.getElem_cons_succ, Act.put, List.setIfInBounds_toArray, List.set_cons_zero, List.set_cons_succ]
  refine wpAnyH_take (i := 2) (v := ?v3) rfl (by kernel_rfl) (by kernel_rfl) (by kernel_rfl) (fun _ _ _ h => h) (Or.inl ⟨by rfl, ?hy3⟩) hS0 ?_
  case hy3 => (intro w' hw'; have a0 := keepC hw' hp x0; have a1 := keepC hw' hp x1; have a2 := keepC hw' hp x2; have b0 := keepC hw' hp' y0; have b1 := keepC hw' hp' y1; have b2 := keepC hw' hp' y2; go_simp; try with_reducible rfl)
  simp only [List.getElem_toArray, List.getElem_cons_zero, List.getElem_cons_succ, Act.put, List.setIfInBounds_toArray, List.set_cons_zero, List.set_cons_succ]
  refine wpAnyH_take (i := 3) (v := ?v4) rfl (by kernel_rfl) (by kernel_rfl) (by kernel_rfl) (fun _ _ _ h => h) (Or.inl ⟨by rfl, ?hy4⟩) hS0 ?_
  case hy4 => (intro w' hw'; have a0 := keepC hw' hp x0; have a1 := keepC hw' hp x1; have a2 := keepC hw' hp x2; have b0 := keepC hw' hp' y0; have b1 := keepC hw' hp' y1; have b2 := keepC hw' hp' y2; go_simp; try with_reducible rfl)
  simp only [List.getElem_toArray, List.getElem_cons_zero, List.getElem_cons_succ, Act.put, List.setIfInBounds_toArray, List.set_cons_zero, List.set_cons_succ]
  refine wpAnyH_take (i := 4) (v := ?v5) rfl (by kernel_rfl) (by kernel_rfl) (by kernel_rfl) (fun _ _ _ h => h) (Or.inl ⟨by rfl, ?hy5⟩) hS0 ?_
  case hy5 => (intro w' hw'; have a0 := keepC hw' hp x0; have a1 := keepC hw' hp x1; have a2 := keepC hw' hp x2; have b0 := keepC hw' hp' y0; have b1 := keepC hw' hp' y1; have b2 := keepC hw' hp' y2; go_simp; try with_reducible rfl)
  simp only [List.getElem_toArray, List.getElem_cons_zero, List.getElem_cons_succ, Act.put, List.setIfInBounds_toArray, List.set_cons_zero, List.set_cons_succ]
  refine wpAnyH_take (i := 5) (v := ?v6) rfl (by kernel_rfl) (by kernel_rfl) (by kernel_rfl) (fun _ _ _ h => h) (Or.inl ⟨by rfl, ?hy6⟩) hS0 ?_
  case hy6 => (intro w' hw'; have a0 := keepC hw' hp x0; have a1 := keepC hw' hp x1; have a2 := keepC hw' hp x2; have b0 := keepC hw' hp' y0; have b1 := keepC hw' hp' y1; have b2 := keepC hw' hp' y2; go_simp; try with_reducible rfl)
  simp only [List.getElem_toArray, List.getElem_cons_zero, List.getElem_cons_succ, Act.put, List.setIfInBounds_toArray, List.set_cons_zero, List.set_cons_succ]
  refine wpAnyH_take (i := 6) (v := ?v7) rfl (by kernel_rfl) (by kernel_rfl) (by kernel_rfl) (fun _ _ _ h => h) (Or.inl ⟨by rfl, ?hy7⟩) hS0 ?_
  case hy7 => (intro w' hw'; have a0 := keepC hw' hp x0; have a1 := keepC hw' hp x1; have a2 := keepC hw' hp x2; have b0 := keepC hw' hp' y0; have b1 := keepC hw' hp' y1; have b2 := keepC hw' hp' y2; go_simp; try with_reducible rfl)
  simp only [List.getElem_toArray, List.getElem_cons_zero, List.getElem_cons_succ, Act.put, List.setIfInBounds_toArray, List.set_cons_zero, List.set_cons_succ]
  refine wpAnyH_take (i := 7) (v := ?v8) rfl (by kernel_rfl) (by kernel_rfl) (by kernel_rfl) (fun _ _ _ h => h) (Or.inl ⟨by rfl, ?hy8⟩) hS0 ?_
  case hy8 => (intro w' hw'; have a0 := keepC hw' hp x0; have a1 := keepC hw' hp x1; have a2 := keepC hw' hp x2; have b0 := keepC hw' hp' y0; have b1 := keepC hw' hp' y1; have b2 := keepC hw' hp' y2; go_simp; try with_reducible rfl)
  simp only [List.getElem_toArray, List.getElem_cons_zero, List.getElem_cons_succ, Act.put, List.setIfInBounds_toArray, List.set_cons_zero, List.set_cons_succ]
  refine wpAnyH_take (i := 8) (v := ?v9) rfl (by kernel_rfl) (by kernel_rfl) (by kernel_rfl) (fun _ _ _ h => h) (Or.inl ⟨by rfl, ?hy9⟩) hS0 ?_
  case hy9 => (intro w' hw'; have a0 := keepC hw' hp x0; have a1 := keepC hw' hp x1; have a2 := keepC hw' hp x2; have b0 := keepC hw' hp' y0; have b1 := keepC hw' hp' y1; have b2 := keepC hw' hp' y2; go_simp; try with_reducible rfl)
  simp only [List.getElem_toArray, List.getElem_cons_zero, List.getElem_cons_succ, Act.put, List.setIfInBounds_toArray, List.set_cons_zero, List.set_cons_succ]
  refine wpAnyH_take (i := 9) (v := ?v10) rfl (by kernel_rfl) (by kernel_rfl) (by kernel_rfl) (fun _ _ _ h => h) (Or.inl ⟨by rfl, ?hy10⟩) hS0 ?_
  case hy10 => (intro w' hw'; have a0 := keepC hw' hp x0; have a1 := keepC hw' hp x1; have a2 := keepC hw' hp x2; have b0 := keepC hw' hp' y0; have b1 := keepC hw' hp' y1; have b2 := keepC hw' hp' y2; go_simp; try with_reducible rfl)
  simp only [List.getElem_toArray, List.getElem_cons_zero, List.getElem_cons_succ, Act.put, List.setIfInBounds_toArray, List.set_cons_zero, List.set_cons_succ]
  refine rgn.one (i := 10) _ rfl (by kernel_rfl) (by rfl) ?_
  simp only [List.getElem_toArray, List.getElem_cons_zero, List.getElem_cons_succ, Act.put, List.setIfInBounds_toArray, List.set_cons_zero, List.set_cons_succ]
  go_wp2_with fail
  refine (unhide SF _ hS0).mono ?_
  rintro e w2 ⟨rfl, g2⟩
  have g3 := hS0.trans (g2.mono hS0.size)
  refine ⟨g3, ?_⟩
  try simp only [List.getElem_toArray, List.getElem_cons_zero, List.getElem_cons_succ, Act.put, List.setIfInBounds_toArray, List.set_cons_zero, List.set_cons_succ]
  replace hS0 := g3
  refine wpAnyH_take (i := 11) (v := ?v11) rfl (by kernel_rfl) (by kernel_rfl) (by kernel_rfl) (fun _ _ _ h => h) (Or.inl ⟨by rfl, ?hy11⟩) hS0 ?_
  case hy11 => (intro w' hw';  go_simp; try with_reducible rfl)
  simp only [List.getElem_toArray, List.getElem_cons_zero, List.getElem_cons_succ, Act.put, List.setIfInBounds_toArray, List.set_cons_zero, List.set_cons_succ]
  refine wpAnyH_take (i := 12) (v := ?v12) rfl (by kernel_rfl) (by kernel_rfl) (by kernel_rfl) (fun _ _ _ h => h) (Or.inl ⟨by rfl, ?hy12⟩) hS0 ?_
  case hy12 => (intro w' hw';  go_simp; try with_reducible rfl)
  simp only [List.getElem_toArray, List.getElem_cons_zero, List.getElem_cons_succ, Act.put, List.setIfInBounds_toArray, List.set_cons_zero, List.set_cons_succ]
  refine wpAnyH_done (by kernel_rfl) ?_ _; refine NoPanic.normal ?_
  have B3 := B2.trans (g3.mono B2.size)
  clear SF x0 x1 x2 y0 y1 y2 hS0 g2 g3 B1 B2 lo hp hp'
  go_wp2_with fail
  obtain ⟨V2, eV2⟩ : ∃ V2, V2 = w2.alloc (.cells #[Value.slice a0 n0 c0, Value.slice a1 n1 c1] 50) := ⟨_, rfl⟩
  have gV2 : Below w2.heap.size w2 V2 := by rw [eV2]; exact (Below.refl _ _).alloc (Nat.le_refl _) _
  have lV2 : w2.heap.size < V2.heap.size := by rw [eV2]; simp
  have pV20 : V2.cell? ⟨w2.heap.size, 0, none⟩ = some (.slice a0 n0 c0) := by rw [eV2, World.cell?_alloc_at _ _ _ _ rfl]; rfl
  have pV21 : V2.cell? ⟨w2.heap.size, 1, none⟩ = some (.slice a1 n1 c1) := by rw [eV2, World.cell?_alloc_at _ _ _ _ rfl]; rfl
  rw [← eV2]
  clear eV2
  refine (faults2 V2 w2.heap.size a0 n0 c0 _ a1 n1 c1 _ lV2 pV20 pV21 (((unhide HX).below B3).below gV2) (((unhide HY).below B3).below gV2) (by omega)).mono ?_
  rintro e U2 ⟨au, nu, cu, R, rR, bR, rfl, hR, qU2⟩
  have HR := hide hR
  have QR := hide rR
  have gU2 : Below w2.heap.size w2 U2 := gV2.trans (qU2.mono gV2.size)
  clear hR rR qU2 lV2 pV20 pV21
  have B4 : Below w.heap.size w U2 := B3.trans (gU2.mono B3.size)
  clear gV2 gU2
  go_wp2_with fail
  obtain ⟨V3, eV3⟩ : ∃ V3, V3 = U2.alloc (.cells #[Value.slice a1 n1 c1, Value.slice a0 n0 c0] 50) := ⟨_, rfl⟩
  have gV3 : Below U2.heap.size U2 V3 := by rw [eV3]; exact (Below.refl _ _).alloc (Nat.le_refl _) _
  have lV3 : U2.heap.size < V3.heap.size := by rw [eV3]; simp
  have pV30 : V3.cell? ⟨U2.heap.size, 0, none⟩ = some (.slice a1 n1 c1) := by rw [eV3, World.cell?_alloc_at _ _ _ _ rfl]; rfl
  have pV31 : V3.cell? ⟨U2.heap.size, 1, none⟩ = some (.slice a0 n0 c0) := by rw [eV3, World.cell?_alloc_at _ _ _ _ rfl]; rfl
  rw [← eV3]
  clear eV3
  refine (faults2 V3 U2.heap.size a1 n1 c1 _ a0 n0 c0 _ lV3 pV30 pV31 (((unhide HY).below B4).below gV3) (((unhide HX).below B4).below gV3) (by omega)).mono ?_
  rintro e U3 ⟨az, nz, cz, S, rS, bS, rfl, hS, qU3⟩
  have HS := hide hS
  have QS := hide rS
  have gU3 : Below U2.heap.size U2 U3 := gV3.trans (qU3.mono gV3.size)
  clear hS rS qU3 lV3 pV30 pV31
  obtain rfl := rs_swap (unhide QR) (unhide QS)
  obtain rfl : nu = nz := (unhide HR).len.symm.trans (unhide HS).len
  go_wp2_with fail
  refine (sameFs_true R au az nu cu cz U3 ((unhide HR).below (gU3)) (unhide HS) (by omega)).mono ?_
  rintro e w4 ⟨rfl, q4⟩
  have C1 : Below U2.heap.size U2 w4 := gU3.trans (q4.mono gU3.size)
  have B5 : Below w.heap.size w w4 := B4.trans (C1.mono B4.size)
  clear gU3 gV3 q4 HS QS
  go_wp2_with fail
  obtain ⟨V4, eV4⟩ : ∃ V4, V4 = w4.alloc (.cells #[Value.slice au nu cu, Value.slice a0 n0 c0] 50) := ⟨_, rfl⟩
  have gV4 : Below w4.heap.size w4 V4 := by rw [eV4]; exact (Below.refl _ _).alloc (Nat.le_refl _) _
  have lV4 : w4.heap.size < V4.heap.size := by rw [eV4]; simp
  have pV40 : V4.cell? ⟨w4.heap.size, 0, none⟩ = some (.slice au nu cu) := by rw [eV4, World.cell?_alloc_at _ _ _ _ rfl]; rfl
  have pV41 : V4.cell? ⟨w4.heap.size, 1, none⟩ = some (.slice a0 n0 c0) := by rw [eV4, World.cell?_alloc_at _ _ _ _ rfl]; rfl
  rw [← eV4]
  clear eV4
  refine (faults2 V4 w4.heap.size au nu cu _ a0 n0 c0 _ lV4 pV40 pV41 (((unhide HR).below C1).below gV4) (((unhide HX).below B5).below gV4) (by omega)).mono ?_
  rintro e U4 ⟨az, nz, cz, S, rS, bS, rfl, hS, qU4⟩
  have HS := hide hS
  have QS := hide rS
  have gU4 : Below w4.heap.size w4 U4 := gV4.trans (qU4.mono gV4.size)
  clear hS rS qU4 lV4 pV40 pV41
  have C2 : Below U2.heap.size U2 U4 := C1.trans (gU4.mono C1.size)
  obtain rfl := rs_self (unhide QR) (unhide QS)
  obtain rfl : nu = nz := (unhide HR).len.symm.trans (unhide HS).len
  go_wp2_with fail
  refine (sameFs_true R au az nu cu cz U4 ((unhide HR).below (C2)) (unhide HS) (by omega)).mono ?_
  rintro e w5 ⟨rfl, q5⟩
  have C3 : Below U2.heap.size U2 w5 := C2.trans (q5.mono C2.size)
  have B6 : Below w.heap.size w w5 := B4.trans (C3.mono B4.size)
  clear gU4 gV4 q5 HS QS
  go_wp2_with fail
  obtain ⟨V5, eV5⟩ : ∃ V5, V5 = w5.alloc (.cells #[Value.slice a0 n0 c0] 50) := ⟨_, rfl⟩
  have gV5 : Below w5.heap.size w5 V5 := by rw [eV5]; exact (Below.refl _ _).alloc (Nat.le_refl _) _
  have lV5 : w5.heap.size < V5.heap.size := by rw [eV5]; simp
  have pV50 : V5.cell? ⟨w5.heap.size, 0, none⟩ = some (.slice a0 n0 c0) := by rw [eV5, World.cell?_alloc_at _ _ _ _ rfl]; rfl
  rw [← eV5]
  clear eV5
  refine (faults1 V5 w5.heap.size a0 n0 c0 _ lV5 pV50 (((unhide HX).below B6).below gV5) (by omega)).mono ?_
  rintro e U5 ⟨ap, np, cp, P, rP, bP, rfl, hP, qU5⟩
  have HP := hide hP
  have QP := hide rP
  have gU5 : Below w5.heap.size w5 U5 := gV5.trans (qU5.mono gV5.size)
  clear hP rP qU5 lV5 pV50
  have B7 : Below w.heap.size w U5 := B6.trans (gU5.mono B6.size)
  go_wp2_with fail
  obtain ⟨V6, eV6⟩ : ∃ V6, V6 = U5.alloc (.cells #[Value.slice a1 n1 c1] 50) := ⟨_, rfl⟩
  have gV6 : Below U5.heap.size U5 V6 := by rw [eV6]; exact (Below.refl _ _).alloc (Nat.le_refl _) _
  have lV6 : U5.heap.size < V6.heap.size := by rw [eV6]; simp
  have pV60 : V6.cell? ⟨U5.heap.size, 0, none⟩ = some (.slice a1 n1 c1) := by rw [eV6, World.cell?_alloc_at _ _ _ _ rfl]; rfl
  rw [← eV6]
  clear eV6
  refine (faults1 V6 U5.heap.size a1 n1 c1 _ lV6 pV60 (((unhide HY).below B7).below gV6) (by omega)).mono ?_
  rintro e U6 ⟨aq, nq, cq, Q, rQ, bQ, rfl, hQ, qU6⟩
  have HQ := hide hQ
  have QQ := hide rQ
  have gU6 : Below U5.heap.size U5 U6 := gV6.trans (qU6.mono gV6.size)
  clear hQ rQ qU6 lV6 pV60
  go_wp2_with fail
  obtain ⟨V7, eV7⟩ : ∃ V7, V7 = U6.alloc (.cells #[Value.slice ap np cp, Value.slice aq nq cq] 50) := ⟨_, rfl⟩
  have gV7 : Below U6.heap.size U6 V7 := by rw [eV7]; exact (Below.refl _ _).alloc (Nat.le_refl _) _
  have lV7 : U6.heap.size < V7.heap.size := by rw [eV7]; simp
  have pV70 : V7.cell? ⟨U6.heap.size, 0, none⟩ = some (.slice ap np cp) := by rw [eV7, World.cell?_alloc_at _ _ _ _ rfl]; rfl
  have pV71 : V7.cell? ⟨U6.heap.size, 1, none⟩ = some (.slice aq nq cq) := by rw [eV7, World.cell?_alloc_at _ _ _ _ rfl]; rfl
  rw [← eV7]
  clear eV7
  refine (faults2 V7 U6.heap.size ap np cp _ aq nq cq _ lV7 pV70 pV71 (((unhide HP).below gU6).below gV7) ((unhide HQ).below gV7) (by omega)).mono ?_
  rintro e U7 ⟨az, nz, cz, S, rS, bS, rfl, hS, qU7⟩
  have HS := hide hS
  have QS := hide rS
  have gU7 : Below U6.heap.size U6 U7 := gV7.trans (qU7.mono gV7.size)
  clear hS rS qU7 lV7 pV70 pV71
  have C4 : Below U2.heap.size U2 U7 := ((C3.trans (gU5.mono C3.size)).trans (gU6.mono (Nat.le_trans C3.size gU5.size))).trans (gU7.mono (Nat.le_trans C3.size (Nat.le_trans gU5.size gU6.size)))
  obtain rfl := rs_steps (unhide QR) (unhide QP) (unhide QQ) (unhide QS)
  obtain rfl : nu = nz := (unhide HR).len.symm.trans (unhide HS).len
  go_wp2_with fail
  refine (sameFs_true R au az nu cu cz U7 ((unhide HR).below (C4)) (unhide HS) (by omega)).mono ?_
  rintro e w6 ⟨rfl, q6⟩
  have C5 : Below U2.heap.size U2 w6 := C4.trans (q6.mono C4.size)
  have B8 : Below w.heap.size w w6 := B4.trans (C5.mono B4.size)
  have HU := hide ((unhide HR).below C5)
  clear gU5 gU6 gU7 gV5 gV6 gV7 q6 HS QS HP QP HQ QQ HR C1 C2 C3 C4 C5 B3 B4 B5 B6 B7
  go_wp2_with fail
  go_loopw [69] (fun vk wz => ∃ k : Nat, k ≤ n0 ∧ vk = .int .i64 k ∧ Below w6.heap.size w6 wz) (fun vk _ => n0 - (intOf vk).toNat)
  case atStart => exact ⟨0, Nat.zero_le _, rfl, Below.refl _ _⟩
  case round =>
    obtain ⟨k, hk, rfl, hbk⟩ := hrel
    have Bk := B8.trans (hbk.mono B8.size)
    have HUk := hide ((unhide HU).below hbk)
    by_cases hlt : k < n0
    · have ki : (k : Int) < (n0 : Int) := by omega
      obtain ⟨p, off, f, cs, rfl, hp, hf, hr, hc⟩ := ((unhide HX).below Bk).get hlt
      have IC := hide (fun W (hW : Below wr.heap.size wr W) => inF_any R f au nu cu cs W ((unhide HUk).below hW) (hc.below hW) (by omega))
      have IT := hide (rs_has (unhide QR) (List.mem_append.2 (.inl (List.mem_of_getElem? hf))))
      obtain ⟨ap, np, cp, aq, nq, cq, rfl, -⟩ := hc
      obtain ⟨fk, ek⟩ : ∃ fk, fk = f.kd := ⟨_, rfl⟩
      rw [← ek] at hr IC
      have x0 : wr.cell? ⟨p, off + k * 3, none⟩ = some (.int .i64 fk) := hr 0 _ rfl
      have x1 : wr.cell? ⟨p, off + k * 3 + 1, none⟩ = some (.slice ap np cp) := hr 1 _ rfl
      have x2 : wr.cell? ⟨p, off + k * 3 + 2, none⟩ = some (.slice aq nq cq) := hr 2 _ rfl
      clear hr hf ek
      go_wp2_with fail
      obtain ⟨A, eA⟩ : ∃ A, A = wr.alloc (.cells #[Value.int IntKind.i64 fk, Value.slice ap np cp, Value.slice aq nq cq] 55) := ⟨_, rfl⟩
      have gA : Below wr.heap.size wr A := by rw [eA]; exact (Below.refl _ _).alloc (Nat.le_refl _) _
      rw [← eA]
      clear eA x0 x1 x2
      refine (unhide IC _ gA).mono ?_
      rintro e w7 ⟨⟨b, rfl, hb⟩, q7⟩
      obtain rfl : b = true := hb.2 (unhide IT)
      have g7 := gA.trans (q7.mono gA.size)
      have h7 := hbk.trans (g7.mono hbk.size)
      clear hb q7 gA g7 IC IT
      go_wp2
      go_roundw
      case rel => exact ⟨k + 1, by omega, by go_num, h7⟩
      case measure => simp [intOf]; omega
    · have ki : ¬ (k : Int) < (n0 : Int) := by omega
      obtain ⟨w9, ew9⟩ : ∃ W, W = wr := ⟨_, rfl⟩
      rw [← ew9] at Bk HUk ⊢
      clear ew9 hbk
      have B9 := Bk
      have HU9 := HUk
      clear Bk HUk
      go_wp2_with fail
      go_loopw [80] (fun vk wz => ∃ k : Nat, k ≤ n1 ∧ vk = .int .i64 k ∧ Below w9.heap.size w9 wz) (fun vk _ => n1 - (intOf vk).toNat)
      case atStart => exact ⟨0, Nat.zero_le _, rfl, Below.refl _ _⟩
      case round =>
        obtain ⟨k, hk, rfl, hbk⟩ := hrel
        have Bk := B9.trans (hbk.mono B9.size)
        have HUk := hide ((unhide HU9).below hbk)
        by_cases hlt : k < n1
        · have ki : (k : Int) < (n1 : Int) := by omega
          obtain ⟨p, off, f, cs, rfl, hp, hf, hr, hc⟩ := ((unhide HY).below Bk).get hlt
          have IC := hide (fun W (hW : Below wr.heap.size wr W) => inF_any R f au nu cu cs W ((unhide HUk).below hW) (hc.below hW) (by omega))
          have IT := hide (rs_has (unhide QR) (List.mem_append.2 (.inr (List.mem_of_getElem? hf))))
          obtain ⟨ap, np, cp, aq, nq, cq, rfl, -⟩ := hc
          obtain ⟨fk, ek⟩ : ∃ fk, fk = f.kd := ⟨_, rfl⟩
          rw [← ek] at hr IC
          have x0 : wr.cell? ⟨p, off + k * 3, none⟩ = some (.int .i64 fk) := hr 0 _ rfl
          have x1 : wr.cell? ⟨p, off + k * 3 + 1, none⟩ = some (.slice ap np cp) := hr 1 _ rfl
          have x2 : wr.cell? ⟨p, off + k * 3 + 2, none⟩ = some (.slice aq nq cq) := hr 2 _ rfl
          clear hr hf ek
          go_wp2_with fail
          obtain ⟨A, eA⟩ : ∃ A, A = wr.alloc (.cells #[Value.int IntKind.i64 fk, Value.slice ap np cp, Value.slice aq nq cq] 55) := ⟨_, rfl⟩
          have gA : Below wr.heap.size wr A := by rw [eA]; exact (Below.refl _ _).alloc (Nat.le_refl _) _
          rw [← eA]
          clear eA x0 x1 x2
          refine (unhide IC _ gA).mono ?_
          rintro e w7 ⟨⟨b, rfl, hb⟩, q7⟩
          obtain rfl : b = true := hb.2 (unhide IT)
          have g7 := gA.trans (q7.mono gA.size)
          have h7 := hbk.trans (g7.mono hbk.size)
          clear hb q7 gA g7 IC IT
          go_wp2
          go_roundw
          case rel => exact ⟨k + 1, by omega, by go_num, h7⟩
          case measure => simp [intOf]; omega
        · have ki : ¬ (k : Int) < (n1 : Int) := by omega
          obtain ⟨w10, ew10⟩ : ∃ W, W = wr := ⟨_, rfl⟩
          rw [← ew10] at Bk HUk ⊢
          clear ew10 hbk
          have B10 := Bk
          have HU10 := HUk
          clear Bk HUk
          go_wp2_with fail
          go_loopw [91] (fun vk wz => ∃ k : Nat, k ≤ nu ∧ vk = .int .i64 k ∧ Below w10.heap.size w10 wz) (fun vk _ => nu - (intOf vk).toNat)
          case atStart => exact ⟨0, Nat.zero_le _, rfl, Below.refl _ _⟩
          case round =>
            obtain ⟨k, hk, rfl, hbk⟩ := hrel
            have Bk := B10.trans (hbk.mono B10.size)
            have HUk := hide ((unhide HU10).below hbk)
            by_cases hlt : k < nu
            · have ki : (k : Int) < (nu : Int) := by omega
              obtain ⟨p, off, f, cs, rfl, hp, hf, hr, hc⟩ := (unhide HUk).get hlt
              have IX := hide (fun W (hW : Below wr.heap.size wr W) => inF_any X f a0 n0 c0 cs W (((unhide HX).below Bk).below hW) (hc.below hW) (by omega))
              have IY := hide (fun W (hW : Below wr.heap.size wr W) => inF_any Y f a1 n1 c1 cs W (((unhide HY).below Bk).below hW) (hc.below hW) (by omega))
              have IM := hide (fun (h : ¬ InF f X) => rs_from (unhide QR) (List.mem_of_getElem? hf) h)
              have HC := hide hc
              have HF := hide hf
              obtain ⟨ap, np, cp, aq, nq, cq, rfl, -⟩ := hc
              obtain ⟨fk, ek⟩ : ∃ fk, fk = f.kd := ⟨_, rfl⟩
              rw [← ek] at hr IX IY HC
              have EK := hide ek
              have x0 : wr.cell? ⟨p, off + k * 3, none⟩ = some (.int .i64 fk) := hr 0 _ rfl
              have x1 : wr.cell? ⟨p, off + k * 3 + 1, none⟩ = some (.slice ap np cp) := hr 1 _ rfl
              have x2 : wr.cell? ⟨p, off + k * 3 + 2, none⟩ = some (.slice aq nq cq) := hr 2 _ rfl
              clear hr hf ek
              go_wp2_with fail
              obtain ⟨A, eA⟩ : ∃ A, A = wr.alloc (.cells #[Value.int IntKind.i64 fk, Value.slice ap np cp, Value.slice aq nq cq] 55) := ⟨_, rfl⟩
              have gA : Below wr.heap.size wr A := by rw [eA]; exact (Below.refl _ _).alloc (Nat.le_refl _) _
              have lA : wr.heap.size < A.heap.size := by rw [eA]; simp
              have z0 : A.cell? ⟨wr.heap.size, 0, none⟩ = some (.int .i64 fk) := by rw [eA, World.cell?_alloc_at _ _ _ _ rfl]; rfl
              have z1 : A.cell? ⟨wr.heap.size, 1, none⟩ = some (.slice ap np cp) := by rw [eA, World.cell?_alloc_at _ _ _ _ rfl]; rfl
              have z2 : A.cell? ⟨wr.heap.size, 2, none⟩ = some (.slice aq nq cq) := by rw [eA, World.cell?_alloc_at _ _ _ _ rfl]; rfl
              rw [← eA]
              clear eA x0 x1 x2
              refine (unhide IX _ gA).mono ?_
              rintro e w7 ⟨⟨b, rfl, hb⟩, qw7⟩
              have gw7 := gA.trans (qw7.mono gA.size)
              replace z0 := keepC qw7 lA z0
              replace z1 := keepC qw7 lA z1
              replace z2 := keepC qw7 lA z2
              cases b
              · have NI := hide (unhide IM (fun h => by have := hb.2 h; cases this))
                clear hb IX IM
                go_wp2_with fail
                refine (unhide IY _ gw7).mono ?_
                rintro e w8 ⟨⟨b, rfl, hb8⟩, q8⟩
                obtain rfl : b = true := hb8.2 (unhide NI)
                have l7 := Nat.lt_of_lt_of_le lA qw7.size
                have gw8 := gw7.trans (q8.mono gw7.size)
                have qw8 := qw7.trans (q8.mono qw7.size)
                replace z0 := keepC q8 l7 z0
                replace z1 := keepC q8 l7 z1
                replace z2 := keepC q8 l7 z2
                clear hb8 IY NI q8
                have gW : Below wr.heap.size wr w8 := gw8
                have lW : wr.heap.size < w8.heap.size := Nat.lt_of_lt_of_le lA qw8.size
                have hW := hbk.trans (gW.mono hbk.size)
                by_cases hk0 : k = 0
                · have k0 : ¬ (0 : Int) < (k : Int) := by omega
                  go_wp2_with fail
                  have hS0 : Below w8.heap.size w8 { w8 with drawn := w8.drawn + 1 } := (Gr.refl _).drew.1
                  refine wp_region_noPanic ?_
                  refine wp_region_held (S := fun w' => Below w8.heap.size w8 w') mixed ?_
                  refine wpAnyH_take (i := 0) (v := ?v13) rfl (by kernel_rfl) (by kernel_rfl) (by kernel_rfl) (fun _ _ _ h => h) (Or.inl ⟨by rfl, ?hy13⟩) hS0 ?_
                  case hy13 => (intro w' hw';  go_simp; try with_reducible rfl)
                  simp only [List.getElem_toArray, List.getElem_cons_zero, List.getElem_cons_succ, Act.put, List.setIfInBounds_toArray, List.set_cons_zero, List.set_cons_succ]
                  refine wpAnyH_take (i := 1) (v := ?v14) rfl (by kernel_rfl) (by kernel_rfl) (by kernel_rfl) (fun _ _ _ h => h) (Or.inl ⟨by rfl, ?hy14⟩) hS0 ?_
                  case hy14 => (intro w' hw';  go_simp; try with_reducible rfl)
                  simp only [List.getElem_toArray, List.getElem_cons_zero, List.getElem_cons_succ, Act.put, List.setIfInBounds_toArray, List.set_cons_zero, List.set_cons_succ]
                  refine wpAnyH_take (i := 2) (v := ?v15) rfl (by kernel_rfl) (by kernel_rfl) (by kernel_rfl) (fun _ _ _ h => h) (Or.inl ⟨by rfl, ?hy15⟩) hS0 ?_
                  case hy15 => (intro w' hw';  go_simp; try with_reducible rfl)
                  simp only [List.getElem_toArray, List.getElem_cons_zero, List.getElem_cons_succ, Act.put, List.setIfInBounds_toArray, List.set_cons_zero, List.set_cons_succ]
                  refine wpAnyH_take (i := 3) (v := undef) rfl (by kernel_rfl) (by kernel_rfl) (by kernel_rfl) (fun _ _ _ h => h) (Or.inr ⟨by rfl, rfl⟩) hS0 ?_
                  simp only [List.getElem_toArray, List.getElem_cons_zero, List.getElem_cons_succ, Act.put, List.setIfInBounds_toArray, List.set_cons_zero, List.set_cons_succ]
                  refine wpAnyH_take (i := 4) (v := undef) rfl (by kernel_rfl) (by kernel_rfl) (by kernel_rfl) (fun _ _ _ h => h) (Or.inr ⟨by rfl, rfl⟩) hS0 ?_
                  simp only [List.getElem_toArray, List.getElem_cons_zero, List.getElem_cons_succ, Act.put, List.setIfInBounds_toArray, List.set_cons_zero, List.set_cons_succ]
                  refine wpAnyH_take (i := 5) (v := undef) rfl (by kernel_rfl) (by kernel_rfl) (by kernel_rfl) (fun _ _ _ h => h) (Or.inr ⟨by rfl, rfl⟩) hS0 ?_
                  simp only [List.getElem_toArray, List.getElem_cons_zero, List.getElem_cons_succ, Act.put, List.setIfInBounds_toArray, List.set_cons_zero, List.set_cons_succ]
                  refine wpAnyH_take (i := 6) (v := undef) rfl (by kernel_rfl) (by kernel_rfl) (by kernel_rfl) (fun _ _ _ h => h) (Or.inr ⟨by rfl, rfl⟩) hS0 ?_
                  simp only [List.getElem_toArray, List.getElem_cons_zero, List.getElem_cons_succ, Act.put, List.setIfInBounds_toArray, List.set_cons_zero, List.set_cons_succ]
                  refine wpAnyH_take (i := 7) (v := undef) rfl (by kernel_rfl) (by kernel_rfl) (by kernel_rfl) (fun _ _ _ h => h) (Or.inr ⟨by rfl, rfl⟩) hS0 ?_
                  simp only [List.getElem_toArray, List.getElem_cons_zero, List.getElem_cons_succ, Act.put, List.setIfInBounds_toArray, List.set_cons_zero, List.set_cons_succ]
                  refine wpAnyH_take (i := 8) (v := undef) rfl (by kernel_rfl) (by kernel_rfl) (by kernel_rfl) (fun _ _ _ h => h) (Or.inr ⟨by rfl, rfl⟩) hS0 ?_
                  simp only [List.getElem_toArray, List.getElem_cons_zero, List.getElem_cons_succ, Act.put, List.setIfInBounds_toArray, List.set_cons_zero, List.set_cons_succ]
                  refine wpAnyH_take (i := 9) (v := undef) rfl (by kernel_rfl) (by kernel_rfl) (by kernel_rfl) (fun _ _ _ h => h) (Or.inr ⟨by rfl, rfl⟩) hS0 ?_
                  simp only [List.getElem_toArray, List.getElem_cons_zero, List.getElem_cons_succ, Act.put, List.setIfInBounds_toArray, List.set_cons_zero, List.set_cons_succ]
                  refine wpAnyH_take (i := 10) (v := undef) rfl (by kernel_rfl) (by kernel_rfl) (by kernel_rfl) (fun _ _ _ h => h) (Or.inr ⟨by rfl, rfl⟩) hS0 ?_
                  simp only [List.getElem_toArray, List.getElem_cons_zero, List.getElem_cons_succ, Act.put, List.setIfInBounds_toArray, List.set_cons_zero, List.set_cons_succ]
                  refine wpAnyH_take (i := 11) (v := undef) rfl (by kernel_rfl) (by kernel_rfl) (by kernel_rfl) (fun _ _ _ h => h) (Or.inr ⟨by rfl, rfl⟩) hS0 ?_
                  simp only [List.getElem_toArray, List.getElem_cons_zero, List.getElem_cons_succ, Act.put, List.setIfInBounds_toArray, List.set_cons_zero, List.set_cons_succ]
                  refine wpAnyH_take (i := 12) (v := undef) rfl (by kernel_rfl) (by kernel_rfl) (by kernel_rfl) (fun _ _ _ h => h) (Or.inr ⟨by rfl, rfl⟩) hS0 ?_
                  simp only [List.getElem_toArray, List.getElem_cons_zero, List.getElem_cons_succ, Act.put, List.setIfInBounds_toArray, List.set_cons_zero, List.set_cons_succ]
                  refine wpAnyH_take (i := 13) (v := undef) rfl (by kernel_rfl) (by kernel_rfl) (by kernel_rfl) (fun _ _ _ h => h) (Or.inr ⟨by rfl, rfl⟩) hS0 ?_
                  simp only [List.getElem_toArray, List.getElem_cons_zero, List.getElem_cons_succ, Act.put, List.setIfInBounds_toArray, List.set_cons_zero, List.set_cons_succ]
                  refine wpAnyH_take (i := 14) (v := undef) rfl (by kernel_rfl) (by kernel_rfl) (by kernel_rfl) (fun _ _ _ h => h) (Or.inr ⟨by rfl, rfl⟩) hS0 ?_
                  simp only [List.getElem_toArray, List.getElem_cons_zero, List.getElem_cons_succ, Act.put, List.setIfInBounds_toArray, List.set_cons_zero, List.set_cons_succ]
                  refine wpAnyH_take (i := 15) (v := undef) rfl (by kernel_rfl) (by kernel_rfl) (by kernel_rfl) (fun _ _ _ h => h) (Or.inr ⟨by rfl, rfl⟩) hS0 ?_
                  simp only [List.getElem_toArray, List.getElem_cons_zero, List.getElem_cons_succ, Act.put, List.setIfInBounds_toArray, List.set_cons_zero, List.set_cons_succ]
                  refine wpAnyH_take (i := 16) (v := undef) rfl (by kernel_rfl) (by kernel_rfl) (by kernel_rfl) (fun _ _ _ h => h) (Or.inr ⟨by rfl, rfl⟩) hS0 ?_
                  simp only [List.getElem_toArray, List.getElem_cons_zero, List.getElem_cons_succ, Act.put, List.setIfInBounds_toArray, List.set_cons_zero, List.set_cons_succ]
                  refine wpAnyH_take (i := 17) (v := undef) rfl (by kernel_rfl) (by kernel_rfl) (by kernel_rfl) (fun _ _ _ h => h) (Or.inr ⟨by rfl, rfl⟩) hS0 ?_
                  simp only [List.getElem_toArray, List.getElem_cons_zero, List.getElem_cons_succ, Act.put, List.setIfInBounds_toArray, List.set_cons_zero, List.set_cons_succ]
                  refine wpAnyH_take (i := 18) (v := undef) rfl (by kernel_rfl) (by kernel_rfl) (by kernel_rfl) (fun _ _ _ h => h) (Or.inr ⟨by rfl, rfl⟩) hS0 ?_
                  simp only [List.getElem_toArray, List.getElem_cons_zero, List.getElem_cons_succ, Act.put, List.setIfInBounds_toArray, List.set_cons_zero, List.set_cons_succ]
                  refine wpAnyH_take (i := 19) (v := undef) rfl (by kernel_rfl) (by kernel_rfl) (by kernel_rfl) (fun _ _ _ h => h) (Or.inr ⟨by rfl, rfl⟩) hS0 ?_
                  simp only [List.getElem_toArray, List.getElem_cons_zero, List.getElem_cons_succ, Act.put, List.setIfInBounds_toArray, List.set_cons_zero, List.set_cons_succ]
                  refine wpAnyH_take (i := 20) (v := undef) rfl (by kernel_rfl) (by kernel_rfl) (by kernel_rfl) (fun _ _ _ h => h) (Or.inr ⟨by rfl, rfl⟩) hS0 ?_
                  simp only [List.getElem_toArray, List.getElem_cons_zero, List.getElem_cons_succ, Act.put, List.setIfInBounds_toArray, List.set_cons_zero, List.set_cons_succ]
                  refine wpAnyH_take (i := 21) (v := ?v16) rfl (by kernel_rfl) (by kernel_rfl) (by kernel_rfl) (fun _ _ _ h => h) (Or.inl ⟨by rfl, ?hy16⟩) hS0 ?_
                  case hy16 => (intro w' hw';  go_simp; try with_reducible rfl)
                  simp only [List.getElem_toArray, List.getElem_cons_zero, List.getElem_cons_succ, Act.put, List.setIfInBounds_toArray, List.set_cons_zero, List.set_cons_succ]
                  refine wpAnyH_done (by kernel_rfl) ?_ _; refine NoPanic.normal ?_
                  have h9 := hW.trans (hS0.mono hW.size)
                  clear hS0
                  go_wp2
                  go_roundw
                  case rel => exact ⟨k + 1, by omega, by go_num, h9⟩
                  case measure => simp [intOf]; omega
                · obtain ⟨j, rfl⟩ : ∃ j, k = j + 1 := ⟨k - 1, by omega⟩
                  have k0 : (0 : Int) < (j : Int) + 1 := by omega
                  have kj : (j : Int) < (nu : Int) := by omega
                  have jb : (j : Int) < 1048576 := by omega
                  have wj : IntKind.i64.wrap (j : Int) = (j : Int) := by rw [IntKind.wrap_i64]; omega
                  obtain ⟨p2, off2, g, ds, ep, hp2, hg, hr2, hc2⟩ := ((unhide HUk).below gW).get (k := j) (by omega)
                  cases ep
                  obtain ⟨nk, nx⟩ := rs_next (unhide QR) hg (unhide HF)
                  have SF := hide (fun W' (hW' : Below w8.heap.size w8 W') => sameF_any g f ds _ W' (hc2.below hW') (((unhide HC).below gW).below hW'))
                  have NX := hide nx
                  obtain ⟨ap2, np2, cp2, aq2, nq2, cq2, rfl, -⟩ := hc2
                  obtain ⟨gk, ek2⟩ : ∃ gk, gk = g.kd := ⟨_, rfl⟩
                  rw [← ek2] at hr2 SF nk
                  rw [← unhide EK] at nk
                  have ngk : ¬ gk > fk := by omega
                  have m0 : w8.cell? ⟨p, off + j * 3, none⟩ = some (.int .i64 gk) := hr2 0 _ rfl
                  have m1 : w8.cell? ⟨p, off + j * 3 + 1, none⟩ = some (.slice ap2 np2 cp2) := hr2 1 _ rfl
                  have m2 : w8.cell? ⟨p, off + j * 3 + 2, none⟩ = some (.slice aq2 nq2 cq2) := hr2 2 _ rfl
                  clear hr2 hg nx ek2 nk
                  go_wp2_with fail
                  have hS0 : Below w8.heap.size w8 { w8 with drawn := w8.drawn + 1 } := (Gr.refl _).drew.1
                  refine wp_region_noPanic ?_
                  refine wp_region_held (S := fun w' => Below w8.heap.size w8 w') mixed ?_
                  refine wpAnyH_take (i := 0) (v := ?v17) rfl (by kernel_rfl) (by kernel_rfl) (by kernel_rfl) (fun _ _ _ h => h) (Or.inl ⟨by rfl, ?hy17⟩) hS0 ?_
                  case hy17 => (intro w' hw'; have a0 := keepC hw' hp2 m0; have a1 := keepC hw' hp2 m1; have a2 := keepC hw' hp2 m2; have b0 := keepC hw' lW z0; have b1 := keepC hw' lW z1; have b2 := keepC hw' lW z2; go_simp; try with_reducible rfl)
                  simp only [List.getElem_toArray, List.getElem_cons_zero, List.getElem_cons_succ, Act.put, List.setIfInBounds_toArray, List.set_cons_zero, List.set_cons_succ]
                  refine wpAnyH_take (i := 1) (v := ?v18) rfl (by kernel_rfl) (by kernel_rfl) (by kernel_rfl) (fun _ _ _ h => h) (Or.inl ⟨by rfl, ?hy18⟩) hS0 ?_
                  case hy18 => (intro w' hw'; have a0 := keepC hw' hp2 m0; have a1 := keepC hw' hp2 m1; have a2 := keepC hw' hp2 m2; have b0 := keepC hw' lW z0; have b1 := keepC hw' lW z1; have b2 := keepC hw' lW z2; go_simp; try with_reducible rfl)
                  simp only [List.getElem_toArray, List.getElem_cons_zero, List.getElem_cons_succ, Act.put, List.setIfInBounds_toArray, List.set_cons_zero, List.set_cons_succ]
                  refine wpAnyH_take (i := 2) (v := ?v19) rfl (by kernel_rfl) (by kernel_rfl) (by kernel_rfl) (fun _ _ _ h => h) (Or.inl ⟨by rfl, ?hy19⟩) hS0 ?_
                  case hy19 => (intro w' hw'; have a0 := keepC hw' hp2 m0; have a1 := keepC hw' hp2 m1; have a2 := keepC hw' hp2 m2; have b0 := keepC hw' lW z0; have b1 := keepC hw' lW z1; have b2 := keepC hw' lW z2; go_simp; try with_reducible rfl)
                  simp only [List.getElem_toArray, List.getElem_cons_zero, List.getElem_cons_succ, Act.put, List.setIfInBounds_toArray, List.set_cons_zero, List.set_cons_succ]
                  refine wpAnyH_take (i := 3) (v := ?v20) rfl (by kernel_rfl) (by kernel_rfl) (by kernel_rfl) (fun _ _ _ h => h) (Or.inl ⟨by rfl, ?hy20⟩) hS0 ?_
                  case hy20 => (intro w' hw'; have a0 := keepC hw' hp2 m0; have a1 := keepC hw' hp2 m1; have a2 := keepC hw' hp2 m2; have b0 := keepC hw' lW z0; have b1 := keepC hw' lW z1; have b2 := keepC hw' lW z2; go_simp; try with_reducible rfl)
                  simp only [List.getElem_toArray, List.getElem_cons_zero, List.getElem_cons_succ, Act.put, List.setIfInBounds_toArray, List.set_cons_zero, List.set_cons_succ]
                  refine wpAnyH_take (i := 4) (v := ?v21) rfl (by kernel_rfl) (by kernel_rfl) (by kernel_rfl) (fun _ _ _ h => h) (Or.inl ⟨by rfl, ?hy21⟩) hS0 ?_
                  case hy21 => (intro w' hw'; have a0 := keepC hw' hp2 m0; have a1 := keepC hw' hp2 m1; have a2 := keepC hw' hp2 m2; have b0 := keepC hw' lW z0; have b1 := keepC hw' lW z1; have b2 := keepC hw' lW z2; go_simp; try with_reducible rfl)
                  simp only [List.getElem_toArray, List.getElem_cons_zero, List.getElem_cons_succ, Act.put, List.setIfInBounds_toArray, List.set_cons_zero, List.set_cons_succ]
                  refine wpAnyH_take (i := 5) (v := ?v22) rfl (by kernel_rfl) (by kernel_rfl) (by kernel_rfl) (fun _ _ _ h => h) (Or.inl ⟨by rfl, ?hy22⟩) hS0 ?_
                  case hy22 => (intro w' hw'; have a0 := keepC hw' hp2 m0; have a1 := keepC hw' hp2 m1; have a2 := keepC hw' hp2 m2; have b0 := keepC hw' lW z0; have b1 := keepC hw' lW z1; have b2 := keepC hw' lW z2; go_simp; try with_reducible rfl)
                  simp only [List.getElem_toArray, List.getElem_cons_zero, List.getElem_cons_succ, Act.put, List.setIfInBounds_toArray, List.set_cons_zero, List.set_cons_succ]
                  refine wpAnyH_take (i := 6) (v := ?v23) rfl (by kernel_rfl) (by kernel_rfl) (by kernel_rfl) (fun _ _ _ h => h) (Or.inl ⟨by rfl, ?hy23⟩) hS0 ?_
                  case hy23 => (intro w' hw'; have a0 := keepC hw' hp2 m0; have a1 := keepC hw' hp2 m1; have a2 := keepC hw' hp2 m2; have b0 := keepC hw' lW z0; have b1 := keepC hw' lW z1; have b2 := keepC hw' lW z2; go_simp; try with_reducible rfl)
                  simp only [List.getElem_toArray, List.getElem_cons_zero, List.getElem_cons_succ, Act.put, List.setIfInBounds_toArray, List.set_cons_zero, List.set_cons_succ]
                  refine wpAnyH_take (i := 7) (v := ?v24) rfl (by kernel_rfl) (by kernel_rfl) (by kernel_rfl) (fun _ _ _ h => h) (Or.inl ⟨by rfl, ?hy24⟩) hS0 ?_
                  case hy24 => (intro w' hw'; have a0 := keepC hw' hp2 m0; have a1 := keepC hw' hp2 m1; have a2 := keepC hw' hp2 m2; have b0 := keepC hw' lW z0; have b1 := keepC hw' lW z1; have b2 := keepC hw' lW z2; go_simp; try with_reducible rfl)
                  simp only [List.getElem_toArray, List.getElem_cons_zero, List.getElem_cons_succ, Act.put, List.setIfInBounds_toArray, List.set_cons_zero, List.set_cons_succ]
                  refine wpAnyH_take (i := 8) (v := ?v25) rfl (by kernel_rfl) (by kernel_rfl) (by kernel_rfl) (fun _ _ _ h => h) (Or.inl ⟨by rfl, ?hy25⟩) hS0 ?_
                  case hy25 => (intro w' hw'; have a0 := keepC hw' hp2 m0; have a1 := keepC hw' hp2 m1; have a2 := keepC hw' hp2 m2; have b0 := keepC hw' lW z0; have b1 := keepC hw' lW z1; have b2 := keepC hw' lW z2; go_simp; try with_reducible rfl)
                  simp only [List.getElem_toArray, List.getElem_cons_zero, List.getElem_cons_succ, Act.put, List.setIfInBounds_toArray, List.set_cons_zero, List.set_cons_succ]
                  refine wpAnyH_take (i := 9) (v := ?v26) rfl (by kernel_rfl) (by kernel_rfl) (by kernel_rfl) (fun _ _ _ h => h) (Or.inl ⟨by rfl, ?hy26⟩) hS0 ?_
                  case hy26 => (intro w' hw'; have a0 := keepC hw' hp2 m0; have a1 := keepC hw' hp2 m1; have a2 := keepC hw' hp2 m2; have b0 := keepC hw' lW z0; have b1 := keepC hw' lW z1; have b2 := keepC hw' lW z2; go_simp; try with_reducible rfl)
                  simp only [List.getElem_toArray, List.getElem_cons_zero, List.getElem_cons_succ, Act.put, List.setIfInBounds_toArray, List.set_cons_zero, List.set_cons_succ]
                  refine wpAnyH_take (i := 10) (v := ?v27) rfl (by kernel_rfl) (by kernel_rfl) (by kernel_rfl) (fun _ _ _ h => h) (Or.inl ⟨by rfl, ?hy27⟩) hS0 ?_
                  case hy27 => (intro w' hw'; have a0 := keepC hw' hp2 m0; have a1 := keepC hw' hp2 m1; have a2 := keepC hw' hp2 m2; have b0 := keepC hw' lW z0; have b1 := keepC hw' lW z1; have b2 := keepC hw' lW z2; go_simp; try with_reducible rfl)
                  simp only [List.getElem_toArray, List.getElem_cons_zero, List.getElem_cons_succ, Act.put, List.setIfInBounds_toArray, List.set_cons_zero, List.set_cons_succ]
                  refine wpAnyH_take (i := 11) (v := .bool false) rfl (by kernel_rfl) (by kernel_rfl) (by kernel_rfl) (fun _ _ _ h => h) (Or.inl ⟨by rfl, ?hzw8⟩) hS0 ?_
                  case hzw8 => (intro w' hw'; go_simp; try first | (with_reducible rfl) | (rw [decide_eq_false (by omega)]) | (simp; omega) | omega)
                  simp only [List.getElem_toArray, List.getElem_cons_zero, List.getElem_cons_succ, Act.put, List.setIfInBounds_toArray, List.set_cons_zero, List.set_cons_succ]
                  refine wpAnyH_take (i := 12) (v := ?v28) rfl (by kernel_rfl) (by kernel_rfl) (by kernel_rfl) (fun _ _ _ h => h) (Or.inl ⟨by rfl, ?hy28⟩) hS0 ?_
                  case hy28 => (intro w' hw'; have a0 := keepC hw' hp2 m0; have a1 := keepC hw' hp2 m1; have a2 := keepC hw' hp2 m2; have b0 := keepC hw' lW z0; have b1 := keepC hw' lW z1; have b2 := keepC hw' lW z2; go_simp; try with_reducible rfl)
                  simp only [List.getElem_toArray, List.getElem_cons_zero, List.getElem_cons_succ, Act.put, List.setIfInBounds_toArray, List.set_cons_zero, List.set_cons_succ]
                  refine wpAnyH_take (i := 13) (v := ?v29) rfl (by kernel_rfl) (by kernel_rfl) (by kernel_rfl) (fun _ _ _ h => h) (Or.inl ⟨by rfl, ?hy29⟩) hS0 ?_
                  case hy29 => (intro w' hw'; have a0 := keepC hw' hp2 m0; have a1 := keepC hw' hp2 m1; have a2 := keepC hw' hp2 m2; have b0 := keepC hw' lW z0; have b1 := keepC hw' lW z1; have b2 := keepC hw' lW z2; go_simp; try with_reducible rfl)
                  simp only [List.getElem_toArray, List.getElem_cons_zero, List.getElem_cons_succ, Act.put, List.setIfInBounds_toArray, List.set_cons_zero, List.set_cons_succ]
                  refine wpAnyH_take (i := 14) (v := ?v30) rfl (by kernel_rfl) (by kernel_rfl) (by kernel_rfl) (fun _ _ _ h => h) (Or.inl ⟨by rfl, ?hy30⟩) hS0 ?_
                  case hy30 => (intro w' hw'; have a0 := keepC hw' hp2 m0; have a1 := keepC hw' hp2 m1; have a2 := keepC hw' hp2 m2; have b0 := keepC hw' lW z0; have b1 := keepC hw' lW z1; have b2 := keepC hw' lW z2; go_simp; try with_reducible rfl)
                  simp only [List.getElem_toArray, List.getElem_cons_zero, List.getElem_cons_succ, Act.put, List.setIfInBounds_toArray, List.set_cons_zero, List.set_cons_succ]
                  refine wpAnyH_take (i := 15) (v := ?v31) rfl (by kernel_rfl) (by kernel_rfl) (by kernel_rfl) (fun _ _ _ h => h) (Or.inl ⟨by rfl, ?hy31⟩) hS0 ?_
                  case hy31 => (intro w' hw'; have a0 := keepC hw' hp2 m0; have a1 := keepC hw' hp2 m1; have a2 := keepC hw' hp2 m2; have b0 := keepC hw' lW z0; have b1 := keepC hw' lW z1; have b2 := keepC hw' lW z2; go_simp; try with_reducible rfl)
                  simp only [List.getElem_toArray, List.getElem_cons_zero, List.getElem_cons_succ, Act.put, List.setIfInBounds_toArray, List.set_cons_zero, List.set_cons_succ]
                  refine wpAnyH_take (i := 16) (v := ?v32) rfl (by kernel_rfl) (by kernel_rfl) (by kernel_rfl) (fun _ _ _ h => h) (Or.inl ⟨by rfl, ?hy32⟩) hS0 ?_
                  case hy32 => (intro w' hw'; have a0 := keepC hw' hp2 m0; have a1 := keepC hw' hp2 m1; have a2 := keepC hw' hp2 m2; have b0 := keepC hw' lW z0; have b1 := keepC hw' lW z1; have b2 := keepC hw' lW z2; go_simp; try with_reducible rfl)
                  simp only [List.getElem_toArray, List.getElem_cons_zero, List.getElem_cons_succ, Act.put, List.setIfInBounds_toArray, List.set_cons_zero, List.set_cons_succ]
                  refine wpAnyH_take (i := 17) (v := ?v33) rfl (by kernel_rfl) (by kernel_rfl) (by kernel_rfl) (fun _ _ _ h => h) (Or.inl ⟨by rfl, ?hy33⟩) hS0 ?_
                  case hy33 => (intro w' hw'; have a0 := keepC hw' hp2 m0; have a1 := keepC hw' hp2 m1; have a2 := keepC hw' hp2 m2; have b0 := keepC hw' lW z0; have b1 := keepC hw' lW z1; have b2 := keepC hw' lW z2; go_simp; try with_reducible rfl)
                  simp only [List.getElem_toArray, List.getElem_cons_zero, List.getElem_cons_succ, Act.put, List.setIfInBounds_toArray, List.set_cons_zero, List.set_cons_succ]
                  refine wpAnyH_take (i := 18) (v := ?v34) rfl (by kernel_rfl) (by kernel_rfl) (by kernel_rfl) (fun _ _ _ h => h) (Or.inl ⟨by rfl, ?hy34⟩) hS0 ?_
                  case hy34 => (intro w' hw'; have a0 := keepC hw' hp2 m0; have a1 := keepC hw' hp2 m1; have a2 := keepC hw' hp2 m2; have b0 := keepC hw' lW z0; have b1 := keepC hw' lW z1; have b2 := keepC hw' lW z2; go_simp; try with_reducible rfl)
                  simp only [List.getElem_toArray, List.getElem_cons_zero, List.getElem_cons_succ, Act.put, List.setIfInBounds_toArray, List.set_cons_zero, List.set_cons_succ]
                  refine rgn.one (i := 19) _ rfl (by kernel_rfl) (by rfl) ?_
                  simp only [List.getElem_toArray, List.getElem_cons_zero, List.getElem_cons_succ, Act.put, List.setIfInBounds_toArray, List.set_cons_zero, List.set_cons_succ]
                  go_wp2_with fail
                  refine (unhide SF _ hS0).mono ?_
                  rintro e w9 ⟨⟨b, rfl, hb9⟩, g9⟩
                  obtain rfl : b = false := by cases b; rfl; exact absurd (hb9.1 rfl) (unhide NX)
                  have g3 := hS0.trans (g9.mono hS0.size)
                  refine ⟨g3, ?_⟩
                  try simp only [List.getElem_toArray, List.getElem_cons_zero, List.getElem_cons_succ, Act.put, List.setIfInBounds_toArray, List.set_cons_zero, List.set_cons_succ]
                  replace hS0 := g3
                  refine wpAnyH_take (i := 20) (v := ?v35) rfl (by kernel_rfl) (by kernel_rfl) (by kernel_rfl) (fun _ _ _ h => h) (Or.inl ⟨by rfl, ?hy35⟩) hS0 ?_
                  case hy35 => (intro w' hw';  go_simp; try with_reducible rfl)
                  simp only [List.getElem_toArray, List.getElem_cons_zero, List.getElem_cons_succ, Act.put, List.setIfInBounds_toArray, List.set_cons_zero, List.set_cons_succ]
                  refine wpAnyH_take (i := 21) (v := ?v36) rfl (by kernel_rfl) (by kernel_rfl) (by kernel_rfl) (fun _ _ _ h => h) (Or.inl ⟨by rfl, ?hy36⟩) hS0 ?_
                  case hy36 => (intro w' hw';  go_simp; try with_reducible rfl)
                  simp only [List.getElem_toArray, List.getElem_cons_zero, List.getElem_cons_succ, Act.put, List.setIfInBounds_toArray, List.set_cons_zero, List.set_cons_succ]
                  refine wpAnyH_done (by kernel_rfl) ?_ _; refine NoPanic.normal ?_
                  have h9 := hW.trans (g3.mono hW.size)
                  clear hS0 g9 g3 hb9 SF m0 m1 m2
                  go_wp2
                  go_roundw
                  case rel => exact ⟨j + 1 + 1, by omega, by go_num, h9⟩
                  case measure => simp [intOf]; omega
              · clear hb IX IY IM
                have gW : Below wr.heap.size wr w7 := gw7
                have lW : wr.heap.size < w7.heap.size := Nat.lt_of_lt_of_le lA qw7.size
                have hW := hbk.trans (gW.mono hbk.size)
                by_cases hk0 : k = 0
                · have k0 : ¬ (0 : Int) < (k : Int) := by omega
                  go_wp2_with fail
                  have hS0 : Below w7.heap.size w7 { w7 with drawn := w7.drawn + 1 } := (Gr.refl _).drew.1
                  refine wp_region_noPanic ?_
                  refine wp_region_held (S := fun w' => Below w7.heap.size w7 w') mixed ?_
                  refine wpAnyH_take (i := 0) (v := ?v37) rfl (by kernel_rfl) (by kernel_rfl) (by kernel_rfl) (fun _ _ _ h => h) (Or.inl ⟨by rfl, ?hy37⟩) hS0 ?_
                  case hy37 => (intro w' hw';  go_simp; try with_reducible rfl)
                  simp only [List.getElem_toArray, List.getElem_cons_zero, List.getElem_cons_succ, Act.put, List.setIfInBounds_toArray, List.set_cons_zero, List.set_cons_succ]
                  refine wpAnyH_take (i := 1) (v := ?v38) rfl (by kernel_rfl) (by kernel_rfl) (by kernel_rfl) (fun _ _ _ h => h) (Or.inl ⟨by rfl, ?hy38⟩) hS0 ?_
                  case hy38 => (intro w' hw';  go_simp; try with_reducible rfl)
                  simp only [List.getElem_toArray, List.getElem_cons_zero, List.getElem_cons_succ, Act.put, List.setIfInBounds_toArray, List.set_cons_zero, List.set_cons_succ]
                  refine wpAnyH_take (i := 2) (v := ?v39) rfl (by kernel_rfl) (by kernel_rfl) (by kernel_rfl) (fun _ _ _ h => h) (Or.inl ⟨by rfl, ?hy39⟩) hS0 ?_
                  case hy39 => (intro w' hw';  go_simp; try with_reducible rfl)
                  simp only [List.getElem_toArray, List.getElem_cons_zero, List.getElem_cons_succ, Act.put, List.setIfInBounds_toArray, List.set_cons_zero, List.set_cons_succ]
                  refine wpAnyH_take (i := 3) (v := undef) rfl (by kernel_rfl) (by kernel_rfl) (by kernel_rfl) (fun _ _ _ h => h) (Or.inr ⟨by rfl, rfl⟩) hS0 ?_
                  simp only [List.getElem_toArray, List.getElem_cons_zero, List.getElem_cons_succ, Act.put, List.setIfInBounds_toArray, List.set_cons_zero, List.set_cons_succ]
                  refine wpAnyH_take (i := 4) (v := undef) rfl (by kernel_rfl) (by kernel_rfl) (by kernel_rfl) (fun _ _ _ h => h) (Or.inr ⟨by rfl, rfl⟩) hS0 ?_
                  simp only [List.getElem_toArray, List.getElem_cons_zero, List.getElem_cons_succ, Act.put, List.setIfInBounds_toArray, List.set_cons_zero, List.set_cons_succ]
                  refine wpAnyH_take (i := 5) (v := undef) rfl (by kernel_rfl) (by kernel_rfl) (by kernel_rfl) (fun _ _ _ h => h) (Or.inr ⟨by rfl, rfl⟩) hS0 ?_
                  simp only [List.getElem_toArray, List.getElem_cons_zero, List.getElem_cons_succ, Act.put, List.setIfInBounds_toArray, List.set_cons_zero, List.set_cons_succ]
                  refine wpAnyH_take (i := 6) (v := undef) rfl (by kernel_rfl) (by kernel_rfl) (by kernel_rfl) (fun _ _ _ h => h) (Or.inr ⟨by rfl, rfl⟩) hS0 ?_
                  simp only [List.getElem_toArray, List.getElem_cons_zero, List.getElem_cons_succ, Act.put, List.setIfInBounds_toArray, List.set_cons_zero, List.set_cons_succ]
                  refine wpAnyH_take (i := 7) (v := undef) rfl (by kernel_rfl) (by kernel_rfl) (by kernel_rfl) (fun _ _ _ h => h) (Or.inr ⟨by rfl, rfl⟩) hS0 ?_
                  simp only [List.getElem_toArray, List.getElem_cons_zero, List.getElem_cons_succ, Act.put, List.setIfInBounds_toArray, List.set_cons_zero, List.set_cons_succ]
                  refine wpAnyH_take (i := 8) (v := undef) rfl (by kernel_rfl) (by kernel_rfl) (by kernel_rfl) (fun _ _ _ h => h) (Or.inr ⟨by rfl, rfl⟩) hS0 ?_
                  simp only [List.getElem_toArray, List.getElem_cons_zero, List.getElem_cons_succ, Act.put, List.setIfInBounds_toArray, List.set_cons_zero, List.set_cons_succ]
                  refine wpAnyH_take (i := 9) (v := undef) rfl (by kernel_rfl) (by kernel_rfl) (by kernel_rfl) (fun _ _ _ h => h) (Or.inr ⟨by rfl, rfl⟩) hS0 ?_
                  simp only [List.getElem_toArray, List.getElem_cons_zero, List.getElem_cons_succ, Act.put, List.setIfInBounds_toArray, List.set_cons_zero, List.set_cons_succ]
                  refine wpAnyH_take (i := 10) (v := undef) rfl (by kernel_rfl) (by kernel_rfl) (by kernel_rfl) (fun _ _ _ h => h) (Or.inr ⟨by rfl, rfl⟩) hS0 ?_
                  simp only [List.getElem_toArray, List.getElem_cons_zero, List.getElem_cons_succ, Act.put, List.setIfInBounds_toArray, List.set_cons_zero, List.set_cons_succ]
                  refine wpAnyH_take (i := 11) (v := undef) rfl (by kernel_rfl) (by kernel_rfl) (by kernel_rfl) (fun _ _ _ h => h) (Or.inr ⟨by rfl, rfl⟩) hS0 ?_
                  simp only [List.getElem_toArray, List.getElem_cons_zero, List.getElem_cons_succ, Act.put, List.setIfInBounds_toArray, List.set_cons_zero, List.set_cons_succ]
                  refine wpAnyH_take (i := 12) (v := undef) rfl (by kernel_rfl) (by kernel_rfl) (by kernel_rfl) (fun _ _ _ h => h) (Or.inr ⟨by rfl, rfl⟩) hS0 ?_
                  simp only [List.getElem_toArray, List.getElem_cons_zero, List.getElem_cons_succ, Act.put, List.setIfInBounds_toArray, List.set_cons_zero, List.set_cons_succ]
                  refine wpAnyH_take (i := 13) (v := undef) rfl (by kernel_rfl) (by kernel_rfl) (by kernel_rfl) (fun _ _ _ h => h) (Or.inr ⟨by rfl, rfl⟩) hS0 ?_
                  simp only [List.getElem_toArray, List.getElem_cons_zero, List.getElem_cons_succ, Act.put, List.setIfInBounds_toArray, List.set_cons_zero, List.set_cons_succ]
                  refine wpAnyH_take (i := 14) (v := undef) rfl (by kernel_rfl) (by kernel_rfl) (by kernel_rfl) (fun _ _ _ h => h) (Or.inr ⟨by rfl, rfl⟩) hS0 ?_
                  simp only [List.getElem_toArray, List.getElem_cons_zero, List.getElem_cons_succ, Act.put, List.setIfInBounds_toArray, List.set_cons_zero, List.set_cons_succ]
                  refine wpAnyH_take (i := 15) (v := undef) rfl (by kernel_rfl) (by kernel_rfl) (by kernel_rfl) (fun _ _ _ h => h) (Or.inr ⟨by rfl, rfl⟩) hS0 ?_
                  simp only [List.getElem_toArray, List.getElem_cons_zero, List.getElem_cons_succ, Act.put, List.setIfInBounds_toArray, List.set_cons_zero, List.set_cons_succ]
                  refine wpAnyH_take (i := 16) (v := undef) rfl (by kernel_rfl) (by kernel_rfl) (by kernel_rfl) (fun _ _ _ h => h) (Or.inr ⟨by rfl, rfl⟩) hS0 ?_
                  simp only [List.getElem_toArray, List.getElem_cons_zero, List.getElem_cons_succ, Act.put, List.setIfInBounds_toArray, List.set_cons_zero, List.set_cons_succ]
                  refine wpAnyH_take (i := 17) (v := undef) rfl (by kernel_rfl) (by kernel_rfl) (by kernel_rfl) (fun _ _ _ h => h) (Or.inr ⟨by rfl, rfl⟩) hS0 ?_
                  simp only [List.getElem_toArray, List.getElem_cons_zero, List.getElem_cons_succ, Act.put, List.setIfInBounds_toArray, List.set_cons_zero, List.set_cons_succ]
                  refine wpAnyH_take (i := 18) (v := undef) rfl (by kernel_rfl) (by kernel_rfl) (by kernel_rfl) (fun _ _ _ h => h) (Or.inr ⟨by rfl, rfl⟩) hS0 ?_
                  simp only [List.getElem_toArray, List.getElem_cons_zero, List.getElem_cons_succ, Act.put, List.setIfInBounds_toArray, List.set_cons_zero, List.set_cons_succ]
                  refine wpAnyH_take (i := 19) (v := undef) rfl (by kernel_rfl) (by kernel_rfl) (by kernel_rfl) (fun _ _ _ h => h) (Or.inr ⟨by rfl, rfl⟩) hS0 ?_
                  simp only [List.getElem_toArray, List.getElem_cons_zero, List.getElem_cons_succ, Act.put, List.setIfInBounds_toArray, List.set_cons_zero, List.set_cons_succ]
                  refine wpAnyH_take (i := 20) (v := undef) rfl (by kernel_rfl) (by kernel_rfl) (by kernel_rfl) (fun _ _ _ h => h) (Or.inr ⟨by rfl, rfl⟩) hS0 ?_
                  simp only [List.getElem_toArray, List.getElem_cons_zero, List.getElem_cons_succ, Act.put, List.setIfInBounds_toArray, List.set_cons_zero, List.set_cons_succ]
                  refine wpAnyH_take (i := 21) (v := ?v40) rfl (by kernel_rfl) (by kernel_rfl) (by kernel_rfl) (fun _ _ _ h => h) (Or.inl ⟨by rfl, ?hy40⟩) hS0 ?_
                  case hy40 => (intro w' hw';  go_simp; try with_reducible rfl)
                  simp only [List.getElem_toArray, List.getElem_cons_zero, List.getElem_cons_succ, Act.put, List.setIfInBounds_toArray, List.set_cons_zero, List.set_cons_succ]
                  refine wpAnyH_done (by kernel_rfl) ?_ _; refine NoPanic.normal ?_
                  have h9 := hW.trans (hS0.mono hW.size)
                  clear hS0
                  go_wp2
                  go_roundw
                  case rel => exact ⟨k + 1, by omega, by go_num, h9⟩
                  case measure => simp [intOf]; omega
                · obtain ⟨j, rfl⟩ : ∃ j, k = j + 1 := ⟨k - 1, by omega⟩
                  have k0 : (0 : Int) < (j : Int) + 1 := by omega
                  have kj : (j : Int) < (nu : Int) := by omega
                  have jb : (j : Int) < 1048576 := by omega
                  have wj : IntKind.i64.wrap (j : Int) = (j : Int) := by rw [IntKind.wrap_i64]; omega
                  obtain ⟨p2, off2, g, ds, ep, hp2, hg, hr2, hc2⟩ := ((unhide HUk).below gW).get (k := j) (by omega)
                  cases ep
                  obtain ⟨nk, nx⟩ := rs_next (unhide QR) hg (unhide HF)
                  have SF := hide (fun W' (hW' : Below w7.heap.size w7 W') => sameF_any g f ds _ W' (hc2.below hW') (((unhide HC).below gW).below hW'))
                  have NX := hide nx
                  obtain ⟨ap2, np2, cp2, aq2, nq2, cq2, rfl, -⟩ := hc2
                  obtain ⟨gk, ek2⟩ : ∃ gk, gk = g.kd := ⟨_, rfl⟩
                  rw [← ek2] at hr2 SF nk
                  rw [← unhide EK] at nk
                  have ngk : ¬ gk > fk := by omega
                  have m0 : w7.cell? ⟨p, off + j * 3, none⟩ = some (.int .i64 gk) := hr2 0 _ rfl
                  have m1 : w7.cell? ⟨p, off + j * 3 + 1, none⟩ = some (.slice ap2 np2 cp2) := hr2 1 _ rfl
                  have m2 : w7.cell? ⟨p, off + j * 3 + 2, none⟩ = some (.slice aq2 nq2 cq2) := hr2 2 _ rfl
                  clear hr2 hg nx ek2 nk
                  go_wp2_with fail
                  have hS0 : Below w7.heap.size w7 { w7 with drawn := w7.drawn + 1 } := (Gr.refl _).drew.1
                  refine wp_region_noPanic ?_
                  refine wp_region_held (S := fun w' => Below w7.heap.size w7 w') mixed ?_
                  refine wpAnyH_take (i := 0) (v := ?v41) rfl (by kernel_rfl) (by kernel_rfl) (by kernel_rfl) (fun _ _ _ h => h) (Or.inl ⟨by rfl, ?hy41⟩) hS0 ?_
                  case hy41 => (intro w' hw'; have a0 := keepC hw' hp2 m0; have a1 := keepC hw' hp2 m1; have a2 := keepC hw' hp2 m2; have b0 := keepC hw' lW z0; have b1 := keepC hw' lW z1; have b2 := keepC hw' lW z2; go_simp; try with_reducible rfl)
                  simp only [List.getElem_toArray, List.getElem_cons_zero, List.getElem_cons_succ, Act.put, List.setIfInBounds_toArray, List.set_cons_zero, List.set_cons_succ]
                  refine wpAnyH_take (i := 1) (v := ?v42) rfl (by kernel_rfl) (by kernel_rfl) (by kernel_rfl) (fun _ _ _ h => h) (Or.inl ⟨by rfl, ?hy42⟩) hS0 ?_
                  case hy42 => (intro w' hw'; have a0 := keepC hw' hp2 m0; have a1 := keepC hw' hp2 m1; have a2 := keepC hw' hp2 m2; have b0 := keepC hw' lW z0; have b1 := keepC hw' lW z1; have b2 := keepC hw' lW z2; go_simp; try with_reducible rfl)
                  simp only [List.getElem_toArray, List.getElem_cons_zero, List.getElem_cons_succ, Act.put, List.setIfInBounds_toArray, List.set_cons_zero, List.set_cons_succ]
                  refine wpAnyH_take (i := 2) (v := ?v43) rfl (by kernel_rfl) (by kernel_rfl) (by kernel_rfl) (fun _ _ _ h => h) (Or.inl ⟨by rfl, ?hy43⟩) hS0 ?_
                  case hy43 => (intro w' hw'; have a0 := keepC hw' hp2 m0; have a1 := keepC hw' hp2 m1; have a2 := keepC hw' hp2 m2; have b0 := keepC hw' lW z0; have b1 := keepC hw' lW z1; have b2 := keepC hw' lW z2; go_simp; try with_reducible rfl)
                  simp only [List.getElem_toArray, List.getElem_cons_zero, List.getElem_cons_succ, Act.put, List.setIfInBounds_toArray, List.set_cons_zero, List.set_cons_succ]
                  refine wpAnyH_take (i := 3) (v := ?v44) rfl (by kernel_rfl) (by kernel_rfl) (by kernel_rfl) (fun _ _ _ h => h) (Or.inl ⟨by rfl, ?hy44⟩) hS0 ?_
                  case hy44 => (intro w' hw'; have a0 := keepC hw' hp2 m0; have a1 := keepC hw' hp2 m1; have a2 := keepC hw' hp2 m2; have b0 := keepC hw' lW z0; have b1 := keepC hw' lW z1; have b2 := keepC hw' lW z2; go_simp; try with_reducible rfl)
                  simp only [List.getElem_toArray, List.getElem_cons_zero, List.getElem_cons_succ, Act.put, List.setIfInBounds_toArray, List.set_cons_zero, List.set_cons_succ]
                  refine wpAnyH_take (i := 4) (v := ?v45) rfl (by kernel_rfl) (by kernel_rfl) (by kernel_rfl) (fun _ _ _ h => h) (Or.inl ⟨by rfl, ?hy45⟩) hS0 ?_
                  case hy45 => (intro w' hw'; have a0 := keepC hw' hp2 m0; have a1 := keepC hw' hp2 m1; have a2 := keepC hw' hp2 m2; have b0 := keepC hw' lW z0; have b1 := keepC hw' lW z1; have b2 := keepC hw' lW z2; go_simp; try with_reducible rfl)
                  simp only [List.getElem_toArray, List.getElem_cons_zero, List.getElem_cons_succ, Act.put, List.setIfInBounds_toArray, List.set_cons_zero, List.set_cons_succ]
                  refine wpAnyH_take (i := 5) (v := ?v46) rfl (by kernel_rfl) (by kernel_rfl) (by kernel_rfl) (fun _ _ _ h => h) (Or.inl ⟨by rfl, ?hy46⟩) hS0 ?_
                  case hy46 => (intro w' hw'; have a0 := keepC hw' hp2 m0; have a1 := keepC hw' hp2 m1; have a2 := keepC hw' hp2 m2; have b0 := keepC hw' lW z0; have b1 := keepC hw' lW z1; have b2 := keepC hw' lW z2; go_simp; try with_reducible rfl)
                  simp only [List.getElem_toArray, List.getElem_cons_zero, List.getElem_cons_succ, Act.put, List.setIfInBounds_toArray, List.set_cons_zero, List.set_cons_succ]
                  refine wpAnyH_take (i := 6) (v := ?v47) rfl (by kernel_rfl) (by kernel_rfl) (by kernel_rfl) (fun _ _ _ h => h) (Or.inl ⟨by rfl, ?hy47⟩) hS0 ?_
                  case hy47 => (intro w' hw'; have a0 := keepC hw' hp2 m0; have a1 := keepC hw' hp2 m1; have a2 := keepC hw' hp2 m2; have b0 := keepC hw' lW z0; have b1 := keepC hw' lW z1; have b2 := keepC hw' lW z2; go_simp; try with_reducible rfl)
                  simp only [List.getElem_toArray, List.getElem_cons_zero, List.getElem_cons_succ, Act.put, List.setIfInBounds_toArray, List.set_cons_zero, List.set_cons_succ]
                  refine wpAnyH_take (i := 7) (v := ?v48) rfl (by kernel_rfl) (by kernel_rfl) (by kernel_rfl) (fun _ _ _ h => h) (Or.inl ⟨by rfl, ?hy48⟩) hS0 ?_
                  case hy48 => (intro w' hw'; have a0 := keepC hw' hp2 m0; have a1 := keepC hw' hp2 m1; have a2 := keepC hw' hp2 m2; have b0 := keepC hw' lW z0; have b1 := keepC hw' lW z1; have b2 := keepC hw' lW z2; go_simp; try with_reducible rfl)
                  simp only [List.getElem_toArray, List.getElem_cons_zero, List.getElem_cons_succ, Act.put, List.setIfInBounds_toArray, List.set_cons_zero, List.set_cons_succ]
                  refine wpAnyH_take (i := 8) (v := ?v49) rfl (by kernel_rfl) (by kernel_rfl) (by kernel_rfl) (fun _ _ _ h => h) (Or.inl ⟨by rfl, ?hy49⟩) hS0 ?_
                  case hy49 => (intro w' hw'; have a0 := keepC hw' hp2 m0; have a1 := keepC hw' hp2 m1; have a2 := keepC hw' hp2 m2; have b0 := keepC hw' lW z0; have b1 := keepC hw' lW z1; have b2 := keepC hw' lW z2; go_simp; try with_reducible rfl)
                  simp only [List.getElem_toArray, List.getElem_cons_zero, List.getElem_cons_succ, Act.put, List.setIfInBounds_toArray, List.set_cons_zero, List.set_cons_succ]
                  refine wpAnyH_take (i := 9) (v := ?v50) rfl (by kernel_rfl) (by kernel_rfl) (by kernel_rfl) (fun _ _ _ h => h) (Or.inl ⟨by rfl, ?hy50⟩) hS0 ?_
                  case hy50 => (intro w' hw'; have a0 := keepC hw' hp2 m0; have a1 := keepC hw' hp2 m1; have a2 := keepC hw' hp2 m2; have b0 := keepC hw' lW z0; have b1 := keepC hw' lW z1; have b2 := keepC hw' lW z2; go_simp; try with_reducible rfl)
                  simp only [List.getElem_toArray, List.getElem_cons_zero, List.getElem_cons_succ, Act.put, List.setIfInBounds_toArray, List.set_cons_zero, List.set_cons_succ]
                  refine wpAnyH_take (i := 10) (v := ?v51) rfl (by kernel_rfl) (by kernel_rfl) (by kernel_rfl) (fun _ _ _ h => h) (Or.inl ⟨by rfl, ?hy51⟩) hS0 ?_
                  case hy51 => (intro w' hw'; have a0 := keepC hw' hp2 m0; have a1 := keepC hw' hp2 m1; have a2 := keepC hw' hp2 m2; have b0 := keepC hw' lW z0; have b1 := keepC hw' lW z1; have b2 := keepC hw' lW z2; go_simp; try with_reducible rfl)
                  simp only [List.getElem_toArray, List.getElem_cons_zero, List.getElem_cons_succ, Act.put, List.setIfInBounds_toArray, List.set_cons_zero, List.set_cons_succ]
                  refine wpAnyH_take (i := 11) (v := .bool false) rfl (by kernel_rfl) (by kernel_rfl) (by kernel_rfl) (fun _ _ _ h => h) (Or.inl ⟨by rfl, ?hzw7⟩) hS0 ?_
                  case hzw7 => (intro w' hw'; go_simp; try first | (with_reducible rfl) | (rw [decide_eq_false (by omega)]) | (simp; omega) | omega)
                  simp only [List.getElem_toArray, List.getElem_cons_zero, List.getElem_cons_succ, Act.put, List.setIfInBounds_toArray, List.set_cons_zero, List.set_cons_succ]
                  refine wpAnyH_take (i := 12) (v := ?v52) rfl (by kernel_rfl) (by kernel_rfl) (by kernel_rfl) (fun _ _ _ h => h) (Or.inl ⟨by rfl, ?hy52⟩) hS0 ?_
                  case hy52 => (intro w' hw'; have a0 := keepC hw' hp2 m0; have a1 := keepC hw' hp2 m1; have a2 := keepC hw' hp2 m2; have b0 := keepC hw' lW z0; have b1 := keepC hw' lW z1; have b2 := keepC hw' lW z2; go_simp; try with_reducible rfl)
                  simp only [List.getElem_toArray, List.getElem_cons_zero, List.getElem_cons_succ, Act.put, List.setIfInBounds_toArray, List.set_cons_zero, List.set_cons_succ]
                  refine wpAnyH_take (i := 13) (v := ?v53) rfl (by kernel_rfl) (by kernel_rfl) (by kernel_rfl) (fun _ _ _ h => h) (Or.inl ⟨by rfl, ?hy53⟩) hS0 ?_
                  case hy53 => (intro w' hw'; have a0 := keepC hw' hp2 m0; have a1 := keepC hw' hp2 m1; have a2 := keepC hw' hp2 m2; have b0 := keepC hw' lW z0; have b1 := keepC hw' lW z1; have b2 := keepC hw' lW z2; go_simp; try with_reducible rfl)
                  simp only [List.getElem_toArray, List.getElem_cons_zero, List.getElem_cons_succ, Act.put, List.setIfInBounds_toArray, List.set_cons_zero, List.set_cons_succ]
                  refine wpAnyH_take (i := 14) (v := ?v54) rfl (by kernel_rfl) (by kernel_rfl) (by kernel_rfl) (fun _ _ _ h => h) (Or.inl ⟨by rfl, ?hy54⟩) hS0 ?_
                  case hy54 => (intro w' hw'; have a0 := keepC hw' hp2 m0; have a1 := keepC hw' hp2 m1; have a2 := keepC hw' hp2 m2; have b0 := keepC hw' lW z0; have b1 := keepC hw' lW z1; have b2 := keepC hw' lW z2; go_simp; try with_reducible rfl)
                  simp only [List.getElem_toArray, List.getElem_cons_zero, List.getElem_cons_succ, Act.put, List.setIfInBounds_toArray, List.set_cons_zero, List.set_cons_succ]
                  refine wpAnyH_take (i := 15) (v := ?v55) rfl (by kernel_rfl) (by kernel_rfl) (by kernel_rfl) (fun _ _ _ h => h) (Or.inl ⟨by rfl, ?hy55⟩) hS0 ?_
                  case hy55 => (intro w' hw'; have a0 := keepC hw' hp2 m0; have a1 := keepC hw' hp2 m1; have a2 := keepC hw' hp2 m2; have b0 := keepC hw' lW z0; have b1 := keepC hw' lW z1; have b2 := keepC hw' lW z2; go_simp; try with_reducible rfl)
                  simp only [List.getElem_toArray, List.getElem_cons_zero, List.getElem_cons_succ, Act.put, List.setIfInBounds_toArray, List.set_cons_zero, List.set_cons_succ]
                  refine wpAnyH_take (i := 16) (v := ?v56) rfl (by kernel_rfl) (by kernel_rfl) (by kernel_rfl) (fun _ _ _ h => h) (Or.inl ⟨by rfl, ?hy56⟩) hS0 ?_
                  case hy56 => (intro w' hw'; have a0 := keepC hw' hp2 m0; have a1 := keepC hw' hp2 m1; have a2 := keepC hw' hp2 m2; have b0 := keepC hw' lW z0; have b1 := keepC hw' lW z1; have b2 := keepC hw' lW z2; go_simp; try with_reducible rfl)
                  simp only [List.getElem_toArray, List.getElem_cons_zero, List.getElem_cons_succ, Act.put, List.setIfInBounds_toArray, List.set_cons_zero, List.set_cons_succ]
                  refine wpAnyH_take (i := 17) (v := ?v57) rfl (by kernel_rfl) (by kernel_rfl) (by kernel_rfl) (fun _ _ _ h => h) (Or.inl ⟨by rfl, ?hy57⟩) hS0 ?_
                  case hy57 => (intro w' hw'; have a0 := keepC hw' hp2 m0; have a1 := keepC hw' hp2 m1; have a2 := keepC hw' hp2 m2; have b0 := keepC hw' lW z0; have b1 := keepC hw' lW z1; have b2 := keepC hw' lW z2; go_simp; try with_reducible rfl)
                  simp only [List.getElem_toArray, List.getElem_cons_zero, List.getElem_cons_succ, Act.put, List.setIfInBounds_toArray, List.set_cons_zero, List.set_cons_succ]
                  refine wpAnyH_take (i := 18) (v := ?v58) rfl (by kernel_rfl) (by kernel_rfl) (by kernel_rfl) (fun _ _ _ h => h) (Or.inl ⟨by rfl, ?hy58⟩) hS0 ?_
                  case hy58 => (intro w' hw'; have a0 := keepC hw' hp2 m0; have a1 := keepC hw' hp2 m1; have a2 := keepC hw' hp2 m2; have b0 := keepC hw' lW z0; have b1 := keepC hw' lW z1; have b2 := keepC hw' lW z2; go_simp; try with_reducible rfl)
                  simp only [List.getElem_toArray, List.getElem_cons_zero, List.getElem_cons_succ, Act.put, List.setIfInBounds_toArray, List.set_cons_zero, List.set_cons_succ]
                  refine rgn.one (i := 19) _ rfl (by kernel_rfl) (by rfl) ?_
                  simp only [List.getElem_toArray, List.getElem_cons_zero, List.getElem_cons_succ, Act.put, List.setIfInBounds_toArray, List.set_cons_zero, List.set_cons_succ]
                  go_wp2_with fail
                  refine (unhide SF _ hS0).mono ?_
                  rintro e w9 ⟨⟨b, rfl, hb9⟩, g9⟩
                  obtain rfl : b = false := by cases b; rfl; exact absurd (hb9.1 rfl) (unhide NX)
                  have g3 := hS0.trans (g9.mono hS0.size)
                  refine ⟨g3, ?_⟩
                  try simp only [List.getElem_toArray, List.getElem_cons_zero, List.getElem_cons_succ, Act.put, List.setIfInBounds_toArray, List.set_cons_zero, List.set_cons_succ]
                  replace hS0 := g3
                  refine wpAnyH_take (i := 20) (v := ?v59) rfl (by kernel_rfl) (by kernel_rfl) (by kernel_rfl) (fun _ _ _ h => h) (Or.inl ⟨by rfl, ?hy59⟩) hS0 ?_
                  case hy59 => (intro w' hw';  go_simp; try with_reducible rfl)
                  simp only [List.getElem_toArray, List.getElem_cons_zero, List.getElem_cons_succ, Act.put, List.setIfInBounds_toArray, List.set_cons_zero, List.set_cons_succ]
                  refine wpAnyH_take (i := 21) (v := ?v60) rfl (by kernel_rfl) (by kernel_rfl) (by kernel_rfl) (fun _ _ _ h => h) (Or.inl ⟨by rfl, ?hy60⟩) hS0 ?_
                  case hy60 => (intro w' hw';  go_simp; try with_reducible rfl)
                  simp only [List.getElem_toArray, List.getElem_cons_zero, List.getElem_cons_succ, Act.put, List.setIfInBounds_toArray, List.set_cons_zero, List.set_cons_succ]
                  refine wpAnyH_done (by kernel_rfl) ?_ _; refine NoPanic.normal ?_
                  have h9 := hW.trans (g3.mono hW.size)
                  clear hS0 g9 g3 hb9 SF m0 m1 m2
                  go_wp2
                  go_roundw
                  case rel => exact ⟨j + 1 + 1, by omega, by go_num, h9⟩
                  case measure => simp [intOf]; omega
            · have ki : ¬ (k : Int) < (nu : Int) := by omega
              go_wp2
              go_ret
              exact ⟨rfl, Bk⟩
end Go.Proofs.Ytmlgbglaifnhgaa.og
namespace Go.Proofs.Ytmlgbglaifnhgaa.vl
open Go.ChangeShapes Go.WideShapes Go.ChangeAt Go.RowKit
open stp (St Pth St3)
set_option linter.unusedVariables false
set_option linter.unusedSimpArgs false
theorem wpList_loadG {P : Program} {ops : Array Oper} {rest : List Oper} {op : Oper} {a : Act} {w : World} {Q : Exit → Act → World → Prop} (hw : Region.wanted op (yielded ops a.tmps) = true) (ty : TypeId) (x : Operand) (ho : op.op = .load ty x)
    (b o : Nat) (hx : a.eval x = .pointer (some ⟨b, o, none⟩)) (cs : List Value) (d : TypeDesc) (hc : w.rangeAt b o cs) (hu : P.underlying ty = some d) (hd : d.isRow = true) (hi : (P.info? ty).map (·.size) = some cs.length)
    (h : wpList P ops Q rest (a.put op.dst (.agg cs.toArray)) w) : wpList P ops Q (op :: rest) a w :=
  wpList_step fun K hK => by rw [if_pos hw]; exact wp_load_mid ty x ho b o hx cs d hc hu hd hi (hK _ _ h)
theorem SmallI.of {l : List Vl} (h : ∀ v ∈ l, Small v) : SmallI (Vls.of l) := by
  induction l with
  | nil => simp [Vls.of, SmallI]
  | cons v r ih => simp only [Vls.of, SmallI]; exact ⟨h v (List.mem_cons_self ..), ih (fun u hu => h u (List.mem_cons_of_mem _ hu))⟩
theorem SmallF.of {l : List (ByteArray × Vl)} (h : ∀ q ∈ l, Small q.2) : SmallF (Fls.of l) := by
  induction l with
  | nil => simp [Fls.of, SmallF]
  | cons v r ih => simp only [Fls.of, SmallF]; exact ⟨h v (List.mem_cons_self ..), ih (fun u hu => h u (List.mem_cons_of_mem _ hu))⟩
theorem mem_modify {α : Type} {f : α → α} : ∀ {l : List α} {i : Nat} {y : α}, y ∈ l.modify i f → y ∈ l ∨ ∃ z ∈ l, y = f z
  | [], i, y, h => by simp at h
  | a :: r, 0, y, h => by
    simp at h
    rcases h with h | h
    · exact .inr ⟨a, List.mem_cons_self .., h⟩
    · exact .inl (List.mem_cons_of_mem _ h)
  | a :: r, i + 1, y, h => by
    simp at h
    rcases h with h | h
    · exact .inl (h ▸ List.mem_cons_self ..)
    · rcases mem_modify h with h | ⟨z, hz, h⟩
      · exact .inl (List.mem_cons_of_mem _ h)
      · exact .inr ⟨z, List.mem_cons_of_mem _ hz, h⟩
theorem Small.setS {v x : Vl} {s : St} {i : Nat} (hv : Small v) (hx : Small x) : Small (setS v s i x) := by
  obtain ⟨kd, bb, ni, f, tx, ty, its, fls⟩ := v
  unfold Small at hv
  obtain ⟨h1, h2, h3, h4, h5⟩ := hv
  simp only [vl.setS]
  split
  · unfold Small
    refine ⟨by rw [Vls.list_of, List.length_set]; exact h1, h2, h3, SmallI.of (fun u hu => ?_), h5⟩
    rcases List.mem_or_eq_of_mem_set hu with h | rfl
    · exact h4.all u h
    · exact hx
  · unfold Small
    refine ⟨h1, by rw [Fls.list_of, List.length_modify]; exact h2, h3, h4, SmallF.of (fun q hq => ?_)⟩
    rcases mem_modify hq with h | ⟨z, hz, rfl⟩
    · exact h5.all q h
    · exact hx
theorem Small.setP : ∀ {ss : List St} {v x u : Vl}, Small v → Small x → setP v ss x = some u → Small u
  | [], v, x, u, hv, hx, h => by simp only [vl.setP, Option.some.injEq] at h; rw [← h]; exact hx
  | s :: r, v, x, u, hv, hx, h => by
    simp only [vl.setP] at h
    cases hc : chI v s with
    | none => rw [hc] at h; simp at h
    | some i =>
      cases hs : vl.getS v s with
      | none => rw [hc, hs] at h; simp at h
      | some y =>
        rw [hc, hs] at h
        simp only [Option.map_eq_some_iff] at h
        obtain ⟨z, hz, rfl⟩ := h
        exact Small.setS hv (Small.setP (hv.getS hs) hx hz)
theorem Small.z0 : Small z0 := by simp [vl.z0, Small, SmallI, SmallF, Vls.list, Fls.list]
theorem same_get {v u u' : Vl} {ss : List St} {a b : Bool} (h : if a = true then getP v ss = some u else getP v ss = none ∧ u = z0) (h' : if b = true then getP v ss = some u' else getP v ss = none ∧ u' = z0) (hv : Small v) : a = b ∧ u = u' ∧ Small u := by
  cases a <;> cases b
  · simp at h h'
    exact ⟨rfl, h.2.trans h'.2.symm, h.2 ▸ Small.z0⟩
  · simp at h h'
    rw [h.1] at h'; cases h'
  · simp at h h'
    rw [h'.1] at h; cases h
  · simp at h h'
    exact ⟨rfl, Option.some.inj (h.symm.trans h'), hv.getP h⟩
theorem same_set {v x u u' : Vl} {ss : List St} {a b : Bool} (h : if a = true then setP v ss x = some u else getP v ss = none ∧ u = z0) (h' : if b = true then setP v ss x = some u' else getP v ss = none ∧ u' = z0) (hv : Small v) (hx : Small x) : a = b ∧ u = u' ∧ Small u := by
  cases a <;> cases b
  · simp at h h'
    exact ⟨rfl, h.2.trans h'.2.symm, h.2 ▸ Small.z0⟩
  · simp at h h'
    rw [setP_none x h.1] at h'; cases h'
  · simp at h h'
    rw [setP_none x h'.1] at h; cases h
  · simp at h h'
    exact ⟨rfl, Option.some.inj (h.symm.trans h'), Small.setP hv hx h⟩
end Go.Proofs.Ytmlgbglaifnhgaa.vl
namespace Go.Proofs.Ytmlgbglaifnhgaa.vl
open Go.ChangeShapes Go.WideShapes Go.ChangeAt Go.RowKit
set_option linter.unusedVariables false
set_option linter.unusedSimpArgs false
theorem vls_ofQ (Q : Vl → Prop) (w : World) (b : Nat) : ∀ (n off : Nat), (∀ i, i < n → ∃ cs v, Row8 w b (off + i * 8) cs ∧ VlC w v cs ∧ Q v) → ∃ l, VlsAt w l (some ⟨b, off, none⟩) n ∧ ∀ v ∈ l.list, Q v
  | 0, off, _ => ⟨.nil, by unfold VlsAt; rfl, by simp [Vls.list]⟩
  | n + 1, off, h => by
    obtain ⟨cs, v, h1, h2, hq⟩ := h 0 (by omega)
    obtain ⟨l, hl, hlq⟩ := vls_ofQ Q w b n (off + 8) (fun i hi => by
      obtain ⟨cs, v, h1, h2⟩ := h (i + 1) (by omega)
      exact ⟨cs, v, by rw [show off + 8 + i * 8 = off + (i + 1) * 8 by omega]; exact h1, h2⟩)
    refine ⟨.cons v l, ?_, fun u hu => ?_⟩
    · unfold VlsAt
      exact ⟨b, off, n, cs, rfl, rfl, by simpa using h1, h2, hl⟩
    · simp only [Vls.list, List.mem_cons] at hu
      rcases hu with rfl | hu
      · exact hq
      · exact hlq u hu
theorem fls_ofQ (Q : Vl → Prop) (w : World) (b : Nat) : ∀ (n off : Nat), (∀ i, i < n → ∃ nm cs v, w.cell? ⟨b, off + i * 9, none⟩ = some (.string nm) ∧ nm.size ≤ maxLen ∧ Row8 w b (off + i * 9 + 1) cs ∧ VlC w v cs ∧ Q v) → ∃ l, FlsAt w l (some ⟨b, off, none⟩) n ∧ ∀ q ∈ l.list, Q q.2
  | 0, off, _ => ⟨.nil, by unfold FlsAt; rfl, by simp [Fls.list]⟩
  | n + 1, off, h => by
    obtain ⟨nm, cs, v, h0, hz, h1, h2, hq⟩ := h 0 (by omega)
    obtain ⟨l, hl, hlq⟩ := fls_ofQ Q w b n (off + 9) (fun i hi => by
      obtain ⟨nm, cs, v, h0, hz, h1, h2⟩ := h (i + 1) (by omega)
      exact ⟨nm, cs, v, by rw [show off + 9 + i * 9 = off + (i + 1) * 9 by omega]; exact h0, hz, by rw [show off + 9 + i * 9 = off + (i + 1) * 9 by omega]; exact h1, h2⟩)
    refine ⟨.cons nm v l, ?_, fun u hu => ?_⟩
    · unfold FlsAt
      exact ⟨b, off, n, cs, rfl, rfl, by simpa using h0, hz, by simpa using h1, h2, hl⟩
    · simp only [Fls.list, List.mem_cons] at hu
      rcases hu with rfl | hu
      · exact hq
      · exact hlq u hu
theorem weights_all {H : Type} {P : Program} {e : TypeId} {d : DataW H} {n : Nat} (hn : n ∈ d.weights P e) : ∀ {l : List (DataW H)}, d ∈ l → n ∈ DataW.weightsAll P e l
  | x :: r, h => by
    simp only [DataW.weightsAll, List.mem_append]
    rcases List.mem_cons.1 h with rfl | h
    · exact .inl hn
    · exact .inr (weights_all hn h)
theorem SmallI.mk : ∀ {l : Vls}, (∀ v ∈ l.list, Small v) → SmallI l := fun {l} h => by have := SmallI.of h; rwa [Vls.of_list] at this
theorem SmallF.mk : ∀ {l : Fls}, (∀ q ∈ l.list, Small q.2) → SmallF l := fun {l} h => by have := SmallF.of h; rwa [Fls.of_list] at this
section
variable {H : Type} {enc : TypeId × Value → H} {w : World} {base : Nat} {held : Bool}
theorem struct8w {P : Program} {spare : Nat → Bool} {t : TypeId} {f0 f1 f2 f3 f4 f5 f6 f7 : Field} {fuel : Nat} {cs : List Value} {x : DataW H × List MemPlace} (ht : P.underlying t = some (.struct #[f0, f1, f2, f3, f4, f5, f6, f7])) (h : DataW.trod enc P w base spare held fuel t cs = some x) :
    ∃ x0 x1 x2 x3 x4 x5 x6 x7 n, fuel = n + 1 ∧ x.1 = .agg [x0.1, x1.1, x2.1, x3.1, x4.1, x5.1, x6.1, x7.1] ∧ cs.length = P.cellsOf t ∧
      DataW.trod enc P w base spare held n f0.type ((cs.drop f0.offset).take (P.cellsOf f0.type)) = some x0 ∧
      DataW.trod enc P w base spare held n f1.type ((cs.drop f1.offset).take (P.cellsOf f1.type)) = some x1 ∧
      DataW.trod enc P w base spare held n f2.type ((cs.drop f2.offset).take (P.cellsOf f2.type)) = some x2 ∧
      DataW.trod enc P w base spare held n f3.type ((cs.drop f3.offset).take (P.cellsOf f3.type)) = some x3 ∧
      DataW.trod enc P w base spare held n f4.type ((cs.drop f4.offset).take (P.cellsOf f4.type)) = some x4 ∧
      DataW.trod enc P w base spare held n f5.type ((cs.drop f5.offset).take (P.cellsOf f5.type)) = some x5 ∧
      DataW.trod enc P w base spare held n f6.type ((cs.drop f6.offset).take (P.cellsOf f6.type)) = some x6 ∧
      DataW.trod enc P w base spare held n f7.type ((cs.drop f7.offset).take (P.cellsOf f7.type)) = some x7 := by
  obtain ⟨xs, n, hfu, hx, hl, hlen, hf⟩ := DataW.trod_struct ht h
  match xs, hlen with
  | [x0, x1, x2, x3, x4, x5, x6, x7], _ => exact ⟨x0, x1, x2, x3, x4, x5, x6, x7, n, hfu, by rw [hx]; rfl, hl, by simpa using hf 0 f0 rfl, by simpa using hf 1 f1 rfl, by simpa using hf 2 f2 rfl, by simpa using hf 3 f3 rfl, by simpa using hf 4 f4 rfl, by simpa using hf 5 f5 rfl, by simpa using hf 6 f6 rfl, by simpa using hf 7 f7 rfl⟩
theorem struct2w {P : Program} {spare : Nat → Bool} {t : TypeId} {f0 f1 : Field} {fuel : Nat} {cs : List Value} {x : DataW H × List MemPlace} (ht : P.underlying t = some (.struct #[f0, f1])) (h : DataW.trod enc P w base spare held fuel t cs = some x) :
    ∃ x0 x1 n, fuel = n + 1 ∧ x.1 = .agg [x0.1, x1.1] ∧ cs.length = P.cellsOf t ∧
      DataW.trod enc P w base spare held n f0.type ((cs.drop f0.offset).take (P.cellsOf f0.type)) = some x0 ∧
      DataW.trod enc P w base spare held n f1.type ((cs.drop f1.offset).take (P.cellsOf f1.type)) = some x1 := by
  obtain ⟨xs, n, hfu, hx, hl, hlen, hf⟩ := DataW.trod_struct ht h
  match xs, hlen with
  | [x0, x1], _ => exact ⟨x0, x1, n, hfu, by rw [hx]; rfl, hl, by simpa using hf 0 f0 rfl, by simpa using hf 1 f1 rfl⟩
theorem bytV : Try.prog.bytesOf 27 = 112 := by kernel_rfl
theorem bytM : Try.prog.bytesOf 69 = 128 := by kernel_rfl
theorem val_ofS : ∀ (fuel : Nat) (cs : List Value) (x : DataW H × List MemPlace), DataW.trod enc Try.prog w base (fun _ => true) held fuel 27 cs = some x → (∀ n, n ∈ x.1.weights Try.prog 27 → n ≤ reachBytes) → ∃ v, VlC w v cs ∧ Small v := by
  intro fuel
  induction fuel using Nat.strongRecOn with
  | _ fuel ih =>
    intro cs x h hN
    obtain ⟨x0, x1, x2, x3, x4, x5, x6, x7, n, hfu, hxd, hl, f0, f1, f2, f3, f4, f5, f6, f7⟩ := struct8w Try.underlying27 h
    have hN6 : ∀ q, q ∈ x6.1.weights Try.prog 24 → q ≤ reachBytes := fun q hq => hN q (by
      rw [hxd]
      simp only [DataW.weights, Try.underlying27]
      exact DataW.weights_mem_each (j := 6) rfl rfl q hq)
    have hN7 : ∀ q, q ∈ x7.1.weights Try.prog 25 → q ≤ reachBytes := fun q hq => hN q (by
      rw [hxd]
      simp only [DataW.weights, Try.underlying27]
      exact DataW.weights_mem_each (j := 7) rfl rfl q hq)
    rw [cellsV] at hl
    obtain ⟨c0, c1, c2, c3, c4, c5, c6, c7, rfl⟩ := list_eight hl
    simp only [cK, cB, cI, cF, cS, cIt, cFl, List.drop_zero, List.drop_succ_cons, List.take_succ_cons, List.take_zero] at f0 f1 f2 f3 f4 f5 f6 f7
    obtain ⟨kd, e0, _, w0⟩ := DataW.trod_int Try.underlying22 f0
    obtain ⟨b, e1, _⟩ := DataW.trod_bool Try.underlying4 f1
    obtain ⟨m, e2, _, w2⟩ := DataW.trod_int Try.underlying2 f2
    obtain ⟨fl, e3, _, w3⟩ := trod_float Try.underlying23 f3
    obtain ⟨tx, e4, _, w4⟩ := DataW.trod_string Try.underlying9 f4
    obtain ⟨ty, e5, _, w5⟩ := DataW.trod_string Try.underlying9 f5
    simp only [List.cons.injEq, and_true] at e0 e1 e2 e3 e4 e5
    subst e0 e1 e2 e3 e4 e5
    have hI : ∃ (ai : Option Addr) (ni ci : Nat) (l : Vls), c6 = .slice ai ni ci ∧ VlsAt w l ai ni ∧ ni ≤ ci ∧ (ai = none → ci = 0) ∧ ci ≤ maxLen ∧ ni ≤ 1256584717458 ∧ ∀ v ∈ l.list, Small v := by
      rcases DataW.trod_slice Try.underlying24 f6 with ⟨hc, _⟩ | ⟨a, len, cap, elems, rest, k, hk, hc, hxs, _, hlc, hcm, hel, hcell, _, _⟩
      · simp at hc
        exact ⟨none, 0, 0, .nil, hc, by unfold VlsAt; rfl, Nat.le_refl _, fun _ => rfl, Nat.zero_le _, Nat.zero_le _, by simp [Vls.list]⟩
      · simp at hc
        have hw6 : (elems.length + rest.length) * 112 ≤ reachBytes := hN6 _ (by
          rw [hxs]
          simp only [DataW.weights, Try.underlying24]
          refine List.mem_cons.2 (.inl ?_)
          rw [bytV]
          simp)
        have hlen6 : len ≤ 1256584717458 := by unfold reachBytes at hw6; omega
        have key : ∀ i, i < len → ∃ cs v, w.cells? base (a.add (i * 8)) 8 = some cs ∧ VlC w v cs ∧ Small v := by
          intro i hi
          have h1 := hcell i hi
          rw [cellsV, List.getElem?_eq_getElem (show i < elems.length by omega), Option.bind_eq_some_iff] at h1
          obtain ⟨cs, h2, h3⟩ := h1
          obtain ⟨v, hv, hsv⟩ := ih k (by omega) cs _ h3 (fun q hq => hN6 q (by
            rw [hxs]
            simp only [DataW.weights, Try.underlying24]
            exact List.mem_cons_of_mem _ (List.mem_append_left _ (weights_all hq (List.mem_map.2 ⟨_, List.getElem_mem (show i < elems.length by omega), rfl⟩)))))
          exact ⟨cs, v, h2, hv, hsv⟩
        by_cases h0 : len = 0
        · subst h0
          exact ⟨some a, 0, cap, .nil, hc, by unfold VlsAt; rfl, by omega, fun e => (by cases e), hcm, by omega, by simp [Vls.list]⟩
        · have hsp : a.spot = none := by
            obtain ⟨cs, v, h1, _, _⟩ := key 0 (by omega)
            have := spot_of h1 (by omega)
            simpa [Addr.add] using this
          obtain ⟨bb, off, spot⟩ := a
          simp only at hsp
          subst hsp
          obtain ⟨l, hl, hlq⟩ := vls_ofQ Small w bb len off (fun i hi => by
            obtain ⟨cs, v, h1, h2, h3⟩ := key i hi
            rw [Addr.add_lit] at h1
            exact ⟨cs, v, (row_of h1 rfl).2, h2, h3⟩)
          exact ⟨some ⟨bb, off, none⟩, len, cap, l, hc, hl, hlc, fun e => (by cases e), hcm, hlen6, hlq⟩
    have hM : ∃ (ai : Option Addr) (ni ci : Nat) (l : Fls), c7 = .slice ai ni ci ∧ FlsAt w l ai ni ∧ ni ≤ ci ∧ (ai = none → ci = 0) ∧ ci ≤ maxLen ∧ ni ≤ 1099511627776 ∧ ∀ q ∈ l.list, Small q.2 := by
      rcases DataW.trod_slice Try.underlying25 f7 with ⟨hc, _⟩ | ⟨a, len, cap, elems, rest, k, hk, hc, hxs, _, hlc, hcm, hel, hcell, _, _⟩
      · simp at hc
        exact ⟨none, 0, 0, .nil, hc, by unfold FlsAt; rfl, Nat.le_refl _, fun _ => rfl, Nat.zero_le _, Nat.zero_le _, by simp [Fls.list]⟩
      · simp at hc
        have hw7 : (elems.length + rest.length) * 128 ≤ reachBytes := hN7 _ (by
          rw [hxs]
          simp only [DataW.weights, Try.underlying25]
          refine List.mem_cons.2 (.inl ?_)
          rw [bytM]
          simp)
        have hlen7 : len ≤ 1099511627776 := by unfold reachBytes at hw7; omega
        have key : ∀ i, i < len → ∃ nm cs v, w.cells? base (a.add (i * 9)) 9 = some (.string nm :: cs) ∧ nm.size ≤ maxLen ∧ VlC w v cs ∧ Small v := by
          intro i hi
          have h1 := hcell i hi
          rw [cellsM, List.getElem?_eq_getElem (show i < elems.length by omega), Option.bind_eq_some_iff] at h1
          obtain ⟨cs, h2, h3⟩ := h1
          obtain ⟨y0, y1, q, hq, hyd, hl9, g0, g1⟩ := struct2w Try.underlying69 h3
          rw [cellsM] at hl9
          obtain ⟨c, r, rfl, hr⟩ := list_nine hl9
          simp only [cS, cellsV, List.drop_zero, List.drop_succ_cons, List.take_succ_cons, List.take_zero] at g0 g1
          rw [List.take_of_length_le (by omega)] at g1
          obtain ⟨nm, e, _, hz⟩ := DataW.trod_string Try.underlying9 g0
          simp only [List.cons.injEq, and_true] at e
          subst e
          obtain ⟨v, hv, hsv⟩ := ih q (by omega) r _ g1 (fun m hm => hN7 m (by
            rw [hxs]
            simp only [DataW.weights, Try.underlying25]
            refine List.mem_cons_of_mem _ (List.mem_append_left _ (weights_all (d := (elems[i]'(by omega)).1) ?_ (List.mem_map.2 ⟨_, List.getElem_mem (show i < elems.length by omega), rfl⟩)))
            rw [hyd]
            simp only [DataW.weights, Try.underlying69]
            exact DataW.weights_mem_each (j := 1) rfl rfl m hm))
          exact ⟨nm, r, v, h2, hz, hv, hsv⟩
        by_cases h0 : len = 0
        · subst h0
          exact ⟨some a, 0, cap, .nil, hc, by unfold FlsAt; rfl, by omega, fun e => (by cases e), hcm, by omega, by simp [Fls.list]⟩
        · have hsp : a.spot = none := by
            obtain ⟨nm, cs, v, h1, _⟩ := key 0 (by omega)
            have := spot_of h1 (by omega)
            simpa [Addr.add] using this
          obtain ⟨bb, off, spot⟩ := a
          simp only at hsp
          subst hsp
          obtain ⟨l, hl, hlq⟩ := fls_ofQ Small w bb len off (fun i hi => by
            obtain ⟨nm, cs, v, h1, hz, h2, h3⟩ := key i hi
            rw [Addr.add_lit] at h1
            have hrow : Row8 w bb (off + i * 9) (.string nm :: cs) := (row_of h1 rfl).2
            refine ⟨nm, cs, v, by simpa using hrow 0 (.string nm) rfl, hz, fun j u hu => ?_, h2, h3⟩
            have := hrow (j + 1) u (by simpa using hu)
            rw [show off + i * 9 + 1 + j = off + i * 9 + (j + 1) by omega]
            exact this)
          exact ⟨some ⟨bb, off, none⟩, len, cap, l, hc, hl, hlc, fun e => (by cases e), hcm, hlen7, hlq⟩
    obtain ⟨ai, ni, ci, its, rfl, hI1, hI2, hI3, hI4, hI5, hI6⟩ := hI
    obtain ⟨af, nf, cf, fls, rfl, hM1, hM2, hM3, hM4, hM5, hM6⟩ := hM
    refine ⟨.mk kd b m fl tx ty its fls, ?_, ?_⟩
    rotate_left
    · unfold Small
      exact ⟨by rw [VlsAt.len its _ _ hI1]; exact hI5, by rw [FlsAt.len fls _ _ hM1]; exact hM5, by simpa [Lit.wf] using w3, SmallI.mk hI6, SmallF.mk hM6⟩
    unfold VlC
    exact ⟨ai, ni, ci, af, nf, cf, rfl, hI1, hM1, hI2, hM2, hI3, hM3, w0, w2, w4, w5, hI4, hM4⟩
end
theorem path_cap {H : Type} {enc : TypeId × Value → H} {w : World} {base : Nat} {held : Bool} {fuel : Nat} {a0 : Option Addr} {len0 cap0 : Nat} {d : DataW H} {p : List MemPlace}
    (h : DataW.trod enc Try.prog w base (fun _ => true) held fuel 29 [.slice a0 len0 cap0] = some (d, p)) (hN : ∀ n, n ∈ d.weights Try.prog 29 → n ≤ reachBytes) : cap0 ≤ 4611686018427387903 := by
  have hb : Try.prog.bytesOf 34 = 32 := by kernel_rfl
  rcases DataW.trod_slice Try.underlying29 h with ⟨hc, _⟩ | ⟨a, len, cap, elems, rest, k, hk, hc, hxs, _, hlc, hcm, hel, hcell, hsp, _⟩
  · simp at hc
    omega
  · simp at hc
    obtain ⟨rfl, rfl, rfl⟩ := hc
    simp only [Prod.mk.injEq] at hxs
    have hr := (hsp rfl).1
    have := hN ((elems.length + rest.length) * 32) (by
      rw [hxs.1]
      simp only [DataW.weights, Try.underlying29]
      refine List.mem_cons.2 (.inl ?_)
      rw [hb]
      simp)
    unfold reachBytes at this
    omega
end Go.Proofs.Ytmlgbglaifnhgaa.vl
namespace Go.Proofs.Ytmlgbglaifnhgaa.vl
open Go.ChangeShapes Go.WideShapes Go.ChangeAt Go.RowKit
set_option linter.unusedVariables false
set_option linter.unusedSimpArgs false
theorem bk_pos {H : Type} (d : DataW H) : 1 ≤ Rows.uptoBulk d := by
  cases d with
  | lit l => cases l <;> simp [Rows.uptoBulk]
  | _ => simp [Rows.uptoBulk]
theorem bk_mem {H : Type} {d : DataW H} : ∀ {l : List (DataW H)}, d ∈ l → Rows.uptoBulk d ≤ Rows.uptoBulkAll l
  | x :: r, h => by
    simp only [Rows.uptoBulkAll]
    rcases List.mem_cons.1 h with e | e
    · subst e; omega
    · have := bk_mem e; omega
theorem bk_len {H : Type} : ∀ (l : List (DataW H)), l.length ≤ Rows.uptoBulkAll l
  | [] => by simp [Rows.uptoBulkAll]
  | x :: r => by
    have := bk_len r
    have := bk_pos x
    simp only [Rows.uptoBulkAll, List.length_cons]
    omega
theorem bk_slice {H : Type} (e s : List (DataW H)) : e.length + s.length ≤ Rows.uptoBulk (.slice e s) := by
  have := bk_len e
  have := bk_len s
  simp only [Rows.uptoBulk]
  omega
theorem bk_elems {H : Type} (e s : List (DataW H)) : Rows.uptoBulkAll e ≤ Rows.uptoBulk (.slice e s) := by
  simp only [Rows.uptoBulk]
  omega
theorem bk_le {H : Type} {l : List (DataW H)} (hk : Rows.uptoSmall H l = true) : Rows.uptoBulkAll l ≤ 1048576 := of_decide_eq_true hk
/-- not deeper than so much -/
def HtLe : Nat → Vl → Prop
  | 0, _ => False
  | n + 1, .mk _ _ _ _ _ _ its fls => (∀ v ∈ its.list, HtLe n v) ∧ ∀ q ∈ fls.list, HtLe n q.2
theorem HtLe.mono : ∀ {m n : Nat} {v : Vl}, HtLe m v → m ≤ n → HtLe n v
  | 0, n, v, h, _ => h.elim
  | m + 1, 0, v, h, hmn => by omega
  | m + 1, n + 1, .mk _ _ _ _ _ _ its fls, h, hmn => ⟨fun v hv => (h.1 v hv).mono (by omega), fun q hq => (h.2 q hq).mono (by omega)⟩
theorem fmax_le (N : Int) : ∀ (l : List Int) (a : Int), 0 ≤ a → a ≤ N → (∀ x ∈ l, 0 ≤ x ∧ x ≤ N) → 0 ≤ l.foldl max a ∧ l.foldl max a ≤ N
  | [], a, h0, h1, _ => ⟨h0, h1⟩
  | x :: l, a, h0, h1, h => fmax_le N l (max a x) (by omega) (by have := (h x (List.mem_cons_self ..)).2; omega) (fun y hy => h y (List.mem_cons_of_mem _ hy))
theorem dep_le : ∀ (n : Nat) (v : Vl), HtLe n v → n ≤ 1048577 → 0 ≤ og.depW v ∧ og.depW v ≤ n
  | 0, v, h, _ => h.elim
  | n + 1, .mk kd b m f tx ty its fls, h, hn => by
    rw [og.depW, og.mxI_fold, og.mxF_fold]
    have h1 := fmax_le n (its.list.map og.depW) 0 (by omega) (by omega) (fun x hx => by
      obtain ⟨v, hv, rfl⟩ := List.mem_map.1 hx
      exact dep_le n v (h.1 v hv) (by omega))
    have h2 := fmax_le n (fls.list.map (fun q => og.depW q.2)) 0 (by omega) (by omega) (fun x hx => by
      obtain ⟨q, hq, rfl⟩ := List.mem_map.1 hx
      exact dep_le n q.2 (h.2 q hq) (by omega))
    split
    · unfold wrap64; omega
    · split
      · unfold wrap64; omega
      · omega
section
variable {H : Type} {enc : TypeId × Value → H} {w : World} {base : Nat} {held : Bool}
theorem val_ofB : ∀ (fuel : Nat) (cs : List Value) (x : DataW H × List MemPlace), DataW.trod enc Try.prog w base (fun _ => true) held fuel 27 cs = some x → Rows.uptoBulk x.1 ≤ 1048576 → ∃ v, VlC w v cs ∧ Small v ∧ HtLe (Rows.uptoBulk x.1) v := by
  intro fuel
  induction fuel using Nat.strongRecOn with
  | _ fuel ih =>
    intro cs x h hN
    obtain ⟨x0, x1, x2, x3, x4, x5, x6, x7, n, hfu, hxd, hl, f0, f1, f2, f3, f4, f5, f6, f7⟩ := struct8w Try.underlying27 h
    have hN6 : Rows.uptoBulk x6.1 + 1 ≤ Rows.uptoBulk x.1 := by
      rw [hxd]
      simp only [Rows.uptoBulk, Rows.uptoBulkAll]
      omega
    have hN7 : Rows.uptoBulk x7.1 + 1 ≤ Rows.uptoBulk x.1 := by
      rw [hxd]
      simp only [Rows.uptoBulk, Rows.uptoBulkAll]
      omega
    obtain ⟨N, eN⟩ : ∃ N, Rows.uptoBulk x.1 = N + 1 := ⟨Rows.uptoBulk x.1 - 1, by omega⟩
    rw [eN] at hN hN6 hN7 ⊢
    rw [cellsV] at hl
    obtain ⟨c0, c1, c2, c3, c4, c5, c6, c7, rfl⟩ := list_eight hl
    simp only [cK, cB, cI, cF, cS, cIt, cFl, List.drop_zero, List.drop_succ_cons, List.take_succ_cons, List.take_zero] at f0 f1 f2 f3 f4 f5 f6 f7
    obtain ⟨kd, e0, _, w0⟩ := DataW.trod_int Try.underlying22 f0
    obtain ⟨b, e1, _⟩ := DataW.trod_bool Try.underlying4 f1
    obtain ⟨m, e2, _, w2⟩ := DataW.trod_int Try.underlying2 f2
    obtain ⟨fl, e3, _, w3⟩ := trod_float Try.underlying23 f3
    obtain ⟨tx, e4, _, w4⟩ := DataW.trod_string Try.underlying9 f4
    obtain ⟨ty, e5, _, w5⟩ := DataW.trod_string Try.underlying9 f5
    simp only [List.cons.injEq, and_true] at e0 e1 e2 e3 e4 e5
    subst e0 e1 e2 e3 e4 e5
    have hI : ∃ (ai : Option Addr) (ni ci : Nat) (l : Vls), c6 = .slice ai ni ci ∧ VlsAt w l ai ni ∧ ni ≤ ci ∧ (ai = none → ci = 0) ∧ ci ≤ maxLen ∧ ni ≤ 1256584717458 ∧ ∀ v ∈ l.list, Small v ∧ HtLe N v := by
      rcases DataW.trod_slice Try.underlying24 f6 with ⟨hc, _⟩ | ⟨a, len, cap, elems, rest, k, hk, hc, hxs, _, hlc, hcm, hel, hcell, _, _⟩
      · simp at hc
        exact ⟨none, 0, 0, .nil, hc, by unfold VlsAt; rfl, Nat.le_refl _, fun _ => rfl, Nat.zero_le _, Nat.zero_le _, by simp [Vls.list]⟩
      · simp at hc
        have hxs1 : x6.1 = .slice (elems.map (·.1)) (rest.map (·.1)) := by rw [hxs]
        rw [hxs1] at hN6
        have hbl := bk_slice (elems.map (·.1)) (rest.map (·.1))
        have hbe := bk_elems (elems.map (·.1)) (rest.map (·.1))
        rw [List.length_map, List.length_map] at hbl
        have hlen6 : len ≤ 1256584717458 := by omega
        have key : ∀ i, i < len → ∃ cs v, w.cells? base (a.add (i * 8)) 8 = some cs ∧ VlC w v cs ∧ (Small v ∧ HtLe N v) := by
          intro i hi
          have h1 := hcell i hi
          rw [cellsV, List.getElem?_eq_getElem (show i < elems.length by omega), Option.bind_eq_some_iff] at h1
          obtain ⟨cs, h2, h3⟩ := h1
          have hbm := bk_mem (List.mem_map.2 ⟨_, List.getElem_mem (show i < elems.length by omega), rfl⟩ : (elems[i]'(by omega)).1 ∈ elems.map (·.1))
          obtain ⟨v, hv, hsv, hht⟩ := ih k (by omega) cs _ h3 (by omega)
          exact ⟨cs, v, h2, hv, hsv, hht.mono (by omega)⟩
        by_cases h0 : len = 0
        · subst h0
          exact ⟨some a, 0, cap, .nil, hc, by unfold VlsAt; rfl, by omega, fun e => (by cases e), hcm, by omega, by simp [Vls.list]⟩
        · have hsp : a.spot = none := by
            obtain ⟨cs, v, h1, _, _⟩ := key 0 (by omega)
            have := spot_of h1 (by omega)
            simpa [Addr.add] using this
          obtain ⟨bb, off, spot⟩ := a
          simp only at hsp
          subst hsp
          obtain ⟨l, hl, hlq⟩ := vls_ofQ (fun v => Small v ∧ HtLe N v) w bb len off (fun i hi => by
            obtain ⟨cs, v, h1, h2, h3⟩ := key i hi
            rw [Addr.add_lit] at h1
            exact ⟨cs, v, (row_of h1 rfl).2, h2, h3⟩)
          exact ⟨some ⟨bb, off, none⟩, len, cap, l, hc, hl, hlc, fun e => (by cases e), hcm, hlen6, hlq⟩
    have hM : ∃ (ai : Option Addr) (ni ci : Nat) (l : Fls), c7 = .slice ai ni ci ∧ FlsAt w l ai ni ∧ ni ≤ ci ∧ (ai = none → ci = 0) ∧ ci ≤ maxLen ∧ ni ≤ 1099511627776 ∧ ∀ q ∈ l.list, Small q.2 ∧ HtLe N q.2 := by
      rcases DataW.trod_slice Try.underlying25 f7 with ⟨hc, _⟩ | ⟨a, len, cap, elems, rest, k, hk, hc, hxs, _, hlc, hcm, hel, hcell, _, _⟩
      · simp at hc
        exact ⟨none, 0, 0, .nil, hc, by unfold FlsAt; rfl, Nat.le_refl _, fun _ => rfl, Nat.zero_le _, Nat.zero_le _, by simp [Fls.list]⟩
      · simp at hc
        have hxs1 : x7.1 = .slice (elems.map (·.1)) (rest.map (·.1)) := by rw [hxs]
        rw [hxs1] at hN7
        have hbl := bk_slice (elems.map (·.1)) (rest.map (·.1))
        have hbe := bk_elems (elems.map (·.1)) (rest.map (·.1))
        rw [List.length_map, List.length_map] at hbl
        have hlen7 : len ≤ 1099511627776 := by omega
        have key : ∀ i, i < len → ∃ nm cs v, w.cells? base (a.add (i * 9)) 9 = some (.string nm :: cs) ∧ nm.size ≤ maxLen ∧ VlC w v cs ∧ (Small v ∧ HtLe N v) := by
          intro i hi
          have h1 := hcell i hi
          rw [cellsM, List.getElem?_eq_getElem (show i < elems.length by omega), Option.bind_eq_some_iff] at h1
          obtain ⟨cs, h2, h3⟩ := h1
          obtain ⟨y0, y1, q, hq, hyd, hl9, g0, g1⟩ := struct2w Try.underlying69 h3
          rw [cellsM] at hl9
          obtain ⟨c, r, rfl, hr⟩ := list_nine hl9
          simp only [cS, cellsV, List.drop_zero, List.drop_succ_cons, List.take_succ_cons, List.take_zero] at g0 g1
          rw [List.take_of_length_le (by omega)] at g1
          obtain ⟨nm, e, _, hz⟩ := DataW.trod_string Try.underlying9 g0
          simp only [List.cons.injEq, and_true] at e
          subst e
          have hbm := bk_mem (List.mem_map.2 ⟨_, List.getElem_mem (show i < elems.length by omega), rfl⟩ : (elems[i]'(by omega)).1 ∈ elems.map (·.1))
          have hby : Rows.uptoBulk y1.1 ≤ Rows.uptoBulk (elems[i]'(by omega)).1 := by
            rw [hyd]
            simp only [Rows.uptoBulk, Rows.uptoBulkAll]
            omega
          obtain ⟨v, hv, hsv, hht⟩ := ih q (by omega) r _ g1 (by omega)
          exact ⟨nm, r, v, h2, hz, hv, hsv, hht.mono (by omega)⟩
        by_cases h0 : len = 0
        · subst h0
          exact ⟨some a, 0, cap, .nil, hc, by unfold FlsAt; rfl, by omega, fun e => (by cases e), hcm, by omega, by simp [Fls.list]⟩
        · have hsp : a.spot = none := by
            obtain ⟨nm, cs, v, h1, _⟩ := key 0 (by omega)
            have := spot_of h1 (by omega)
            simpa [Addr.add] using this
          obtain ⟨bb, off, spot⟩ := a
          simp only at hsp
          subst hsp
          obtain ⟨l, hl, hlq⟩ := fls_ofQ (fun v => Small v ∧ HtLe N v) w bb len off (fun i hi => by
            obtain ⟨nm, cs, v, h1, hz, h2, h3⟩ := key i hi
            rw [Addr.add_lit] at h1
            have hrow : Row8 w bb (off + i * 9) (.string nm :: cs) := (row_of h1 rfl).2
            refine ⟨nm, cs, v, by simpa using hrow 0 (.string nm) rfl, hz, fun j u hu => ?_, h2, h3⟩
            have := hrow (j + 1) u (by simpa using hu)
            rw [show off + i * 9 + 1 + j = off + i * 9 + (j + 1) by omega]
            exact this)
          exact ⟨some ⟨bb, off, none⟩, len, cap, l, hc, hl, hlc, fun e => (by cases e), hcm, hlen7, hlq⟩
    obtain ⟨ai, ni, ci, its, rfl, hI1, hI2, hI3, hI4, hI5, hI6⟩ := hI
    obtain ⟨af, nf, cf, fls, rfl, hM1, hM2, hM3, hM4, hM5, hM6⟩ := hM
    refine ⟨.mk kd b m fl tx ty its fls, ?_, ?_, ?_⟩
    rotate_left
    · unfold Small
      exact ⟨by rw [VlsAt.len its _ _ hI1]; exact hI5, by rw [FlsAt.len fls _ _ hM1]; exact hM5, by simpa [Lit.wf] using w3, SmallI.mk (fun v hv => (hI6 v hv).1), SmallF.mk (fun q hq => (hM6 q hq).1)⟩
    · exact ⟨fun v hv => (hI6 v hv).2, fun q hq => (hM6 q hq).2⟩
    unfold VlC
    exact ⟨ai, ni, ci, af, nf, cf, rfl, hI1, hM1, hI2, hM2, hI3, hM3, w0, w2, w4, w5, hI4, hM4⟩
end
end Go.Proofs.Ytmlgbglaifnhgaa.vl
namespace Go.Proofs.Ytmlgbglaifnhgaa.og
open Go.ChangeShapes Go.WideShapes Go.ChangeAt Go.RowKit
open vl (struct2w row_of spot_of bk_slice bk_elems bk_mem)
open stp (St Pth path_of list_three)
set_option linter.unusedVariables false
set_option linter.unusedSimpArgs false
theorem pick_all {α : Type} : ∀ (n : Nat) (P : Nat → α → Prop), (∀ i, i < n → ∃ x, P i x) → ∃ l : List α, l.length = n ∧ ∀ (i : Nat) (x : α), l[i]? = some x → P i x
  | 0, P, _ => ⟨[], rfl, fun i x h => by simp at h⟩
  | n + 1, P, h => by
    obtain ⟨x, hx⟩ := h 0 (by omega)
    obtain ⟨l, hl, hk⟩ := pick_all n (fun i => P (i + 1)) (fun i hi => h (i + 1) (by omega))
    refine ⟨x :: l, by simp [hl], fun i y hy => ?_⟩
    cases i with
    | zero => simp at hy; subst hy; exact hx
    | succ i => exact hk i y (by simpa using hy)
theorem list_two {α : Type} {l : List α} (h : l.length = 2) : ∃ x y, l = [x, y] := by
  match l, h with
  | [x, y], _ => exact ⟨x, y, rfl⟩
theorem cellsP : Try.prog.cellsOf 52 = 2 := by kernel_rfl
theorem cellsFt : Try.prog.cellsOf 55 = 3 := by kernel_rfl
theorem cellsI : Try.prog.cellsOf 3 = 1 := by kernel_rfl
theorem cellsE : Try.prog.cellsOf 30 = 1 := by kernel_rfl
theorem cellsLP : Try.prog.cellsOf 53 = 1 := by kernel_rfl
theorem cellsLS : Try.prog.cellsOf 29 = 1 := by kernel_rfl
section
variable {H : Type} {enc : TypeId × Value → H} {w : World} {base : Nat} {held : Bool}
theorem lt_of_row {b off : Nat} {cs : List Value} {u : Value} (h : vl.Row8 w b off cs) (h0 : cs[0]? = some u) : b < w.heap.size := World.block_lt_of_cell? w _ (h 0 u h0)
theorem pos_of {fuel : Nat} {v : Value} {x : DataW H × List MemPlace} (h : DataW.trod enc Try.prog w base (fun _ => true) held fuel 53 [v] = some x) :
    ∃ (a : Option Addr) (n c : Nat) (ps : List (Int × Int)), v = .slice a n c ∧ PosAt w a n ps ∧ n ≤ c ∧ (a = none → c = 0) ∧ c ≤ maxLen ∧ n ≤ Rows.uptoBulk x.1 := by
  rcases DataW.trod_slice Try.underlying53 h with ⟨hc, _⟩ | ⟨a, len, cap, elems, rest, k, hk, hc, hxs, _, hlc, hcm, hel, hcell, _, _⟩
  · simp at hc
    exact ⟨none, 0, 0, [], hc, ⟨rfl, .inl rfl⟩, Nat.le_refl _, fun _ => rfl, Nat.zero_le _, Nat.zero_le _⟩
  · simp at hc
    have hxs1 : x.1 = .slice (elems.map (·.1)) (rest.map (·.1)) := by rw [hxs]
    have hbl := bk_slice (elems.map (·.1)) (rest.map (·.1))
    rw [List.length_map, List.length_map] at hbl
    rw [hxs1]
    have key : ∀ i, i < len → ∃ p : Int × Int, w.cells? base (a.add (i * 2)) 2 = some (posC p) := by
      intro i hi
      have h1 := hcell i hi
      rw [cellsP, List.getElem?_eq_getElem (show i < elems.length by omega), Option.bind_eq_some_iff] at h1
      obtain ⟨cs, h2, h3⟩ := h1
      obtain ⟨y0, y1, q, hq, hyd, hl2, g0, g1⟩ := struct2w Try.underlying52 h3
      rw [cellsP] at hl2
      obtain ⟨u0, u1, rfl⟩ := list_two hl2
      simp only [cellsI, List.drop_zero, List.drop_succ_cons, List.take_succ_cons, List.take_zero] at g0 g1
      obtain ⟨z0, e0, _, _⟩ := DataW.trod_int Try.underlying3 g0
      obtain ⟨z1, e1, _, _⟩ := DataW.trod_int Try.underlying3 g1
      simp only [List.cons.injEq, and_true] at e0 e1
      subst e0 e1
      exact ⟨(z0, z1), h2⟩
    by_cases h0 : len = 0
    · subst h0
      exact ⟨some a, 0, cap, [], hc, ⟨rfl, .inl rfl⟩, by omega, fun e => (by cases e), hcm, by omega⟩
    · have hsp : a.spot = none := by
        obtain ⟨p, h1⟩ := key 0 (by omega)
        have := spot_of h1 (by omega)
        simpa [Addr.add] using this
      obtain ⟨bb, off, spot⟩ := a
      simp only at hsp
      subst hsp
      have key2 : ∀ i, i < len → ∃ p : Int × Int, vl.Row8 w bb (off + i * 2) (posC p) := by
        intro i hi
        obtain ⟨p, h1⟩ := key i hi
        rw [Addr.add_lit] at h1
        exact ⟨p, (row_of h1 rfl).2⟩
      obtain ⟨ps, hl, hp⟩ := pick_all len _ key2
      obtain ⟨p, h1⟩ := key2 0 (by omega)
      exact ⟨some ⟨bb, off, none⟩, len, cap, ps, hc, ⟨hl, .inr ⟨bb, off, rfl, lt_of_row h1 rfl, fun i p hi => hp i p hi⟩⟩, hlc, fun e => (by cases e), hcm, by omega⟩
theorem step_of {fuel : Nat} {v : Value} {x : DataW H × List MemPlace} (h : DataW.trod enc Try.prog w base (fun _ => true) held fuel 29 [v] = some x) :
    ∃ (a : Option Addr) (n c : Nat) (ss : List St), v = .slice a n c ∧ Pth w a n ss ∧ n ≤ c ∧ (a = none → c = 0) ∧ c ≤ maxLen ∧ n ≤ Rows.uptoBulk x.1 := by
  rcases DataW.trod_slice Try.underlying29 h with ⟨hc, _⟩ | ⟨a, len, cap, elems, rest, k, hk, hc, hxs, _, hlc, hcm, hel, hcell, _, _⟩
  · simp at hc
    exact ⟨none, 0, 0, [], hc, ⟨rfl, .inl rfl⟩, Nat.le_refl _, fun _ => rfl, Nat.zero_le _, Nat.zero_le _⟩
  · simp at hc
    subst hc
    obtain ⟨ss, h1, h2, h3, -⟩ := path_of (d := x.1) (p := x.2) h
    have hxs1 : x.1 = .slice (elems.map (·.1)) (rest.map (·.1)) := by rw [hxs]
    have hbl := bk_slice (elems.map (·.1)) (rest.map (·.1))
    rw [List.length_map, List.length_map] at hbl
    exact ⟨_, _, _, ss, rfl, h1, h2, h3, hcm, by rw [hxs1]; omega⟩
theorem four_sum {H : Type} : ∀ l : List (DataW H), (∀ d ∈ l, 4 ≤ Rows.uptoBulk d) → l.length * 4 ≤ Rows.uptoBulkAll l
  | [], _ => by simp
  | x :: r, h => by
    have h1 := h x (List.mem_cons_self ..)
    have h2 := four_sum r (fun d hd => h d (List.mem_cons_of_mem _ hd))
    simp only [Rows.uptoBulkAll, List.length_cons]
    omega
theorem bulk_pos (d : DataW H) : 1 ≤ Rows.uptoBulk d := by
  cases d <;> first | (simp only [Rows.uptoBulk]; omega) | exact Nat.le_refl _ | (rename_i l; cases l <;> first | (simp only [Rows.uptoBulk]; omega) | exact Nat.le_refl _ | simp [Rows.uptoBulk]) | simp [Rows.uptoBulk]
theorem flts_of {fuel : Nat} {a0 : Option Addr} {len0 cap0 : Nat} {d : DataW H} {p : List MemPlace} (h : DataW.trod enc Try.prog w base (fun _ => true) held fuel 50 [.slice a0 len0 cap0] = some (d, p)) (hN : Rows.uptoBulk d ≤ 1048576) :
    ∃ R : List Ft, FtsR w a0 len0 cap0 R ∧ len0 * 4 ≤ Rows.uptoBulk d := by
  rcases DataW.trod_slice Try.underlying50 h with ⟨hc, _⟩ | ⟨a, len, cap, elems, rest, k, hk, hc, hxs, _, hlc, hcm, hel, hcell, _, _⟩
  · simp at hc
    obtain ⟨rfl, rfl, rfl⟩ := hc
    exact ⟨[], ⟨rfl, Nat.le_refl _, fun _ => rfl, .inl rfl⟩, by omega⟩
  · simp at hc
    obtain ⟨rfl, rfl, rfl⟩ := hc
    have hxs1 : d = .slice (elems.map (·.1)) (rest.map (·.1)) := by simpa using congrArg Prod.fst hxs
    have hbe := bk_elems (elems.map (·.1)) (rest.map (·.1))
    rw [← hxs1] at hbe
    have key : ∀ i (hi : i < len0), ∃ (f : Ft) (cs : List Value), w.cells? base (a.add (i * 3)) 3 = some cs ∧ FtC w f cs ∧ 4 ≤ Rows.uptoBulk (elems[i]'(by omega)).1 := by
      intro i hi
      have h1 := hcell i hi
      rw [cellsFt, List.getElem?_eq_getElem (show i < elems.length by omega), Option.bind_eq_some_iff] at h1
      obtain ⟨cs, h2, h3⟩ := h1
      obtain ⟨y0, y1, y2, n', hD, hl3, g0, g1, g2⟩ := Go.Deep.trod_struct3 Try.underlying55 h3
      rw [cellsFt] at hl3
      obtain ⟨u0, u1, u2, rfl⟩ := list_three hl3
      simp only [cellsE, cellsLP, cellsLS, List.drop_zero, List.drop_succ_cons, List.take_succ_cons, List.take_zero] at g0 g1 g2
      obtain ⟨z0, e0, _, _⟩ := DataW.trod_int Try.underlying30 g0
      simp only [List.cons.injEq, and_true] at e0
      subst e0
      obtain ⟨ap, np, cp, ps, rfl, p1, p2, p3, p4, p5⟩ := pos_of g1
      obtain ⟨aq, nq, cq, ss, rfl, q1, q2, q3, q4, q5⟩ := step_of g2
      have hbm := bk_mem (List.mem_map.2 ⟨_, List.getElem_mem (show i < elems.length by omega), rfl⟩ : (elems[i]'(by omega)).1 ∈ elems.map (·.1))
      have hD1 : Rows.uptoBulk (elems[i]'(by omega)).1 = Rows.uptoBulk (.agg [y0.1, y1.1, y2.1] : DataW H) := by rw [hD]
      simp only [Rows.uptoBulk, Rows.uptoBulkAll] at hD1
      have b0 := bulk_pos y0.1
      have b1 := bulk_pos y1.1
      have b2 := bulk_pos y2.1
      exact ⟨⟨z0, ps, ss⟩, _, h2, ⟨ap, np, cp, aq, nq, cq, rfl, p1, q1, by omega, by omega, p2, q2, p3, q3, p4, q4⟩, by omega⟩
    have hb4 : len0 * 4 ≤ Rows.uptoBulk d := by
      have := four_sum (elems.map (·.1)) (fun e he => by
        obtain ⟨x, hx, rfl⟩ := List.mem_map.1 he
        obtain ⟨i, hi, rfl⟩ := List.mem_iff_getElem.1 hx
        obtain ⟨f, cs, -, -, h4⟩ := key i (by omega)
        exact h4)
      rw [List.length_map] at this
      omega
    by_cases h0 : len0 = 0
    · subst h0
      exact ⟨[], ⟨rfl, hlc, fun e => (by cases e), .inl rfl⟩, by omega⟩
    · have hsp : a.spot = none := by
        obtain ⟨f, cs, h1, _⟩ := key 0 (by omega)
        have := spot_of h1 (by omega)
        simpa [Addr.add] using this
      obtain ⟨bb, off, spot⟩ := a
      simp only at hsp
      subst hsp
      have key2 : ∀ i, i < len0 → ∃ f : Ft, ∃ cs, vl.Row8 w bb (off + i * 3) cs ∧ FtC w f cs := by
        intro i hi
        obtain ⟨f, cs, h1, h2, -⟩ := key i hi
        rw [Addr.add_lit] at h1
        exact ⟨f, cs, (row_of h1 rfl).2, h2⟩
      obtain ⟨R, hl, hp⟩ := pick_all len0 _ key2
      obtain ⟨f, cs, h1, h2⟩ := key2 0 (by omega)
      obtain ⟨_, _, _, _, _, _, ec, -⟩ := h2
      exact ⟨R, ⟨hl, hlc, fun e => (by cases e), .inr ⟨bb, off, rfl, lt_of_row h1 (by rw [ec]; rfl), fun i f hi => hp i f hi⟩⟩, hb4⟩
end
end Go.Proofs.Ytmlgbglaifnhgaa.og
