import Derived.Test.YtmlgbglaifnhgaaTso8
import Derived.Test.YtmlgbglaifnhgaaRows
import Derived.WalkKit
import Derived.ProofKit
import Derived.OpenShut
import Derived.ShutString
import Derived.Below
import Derived.Deep.QuietTactic
import Derived.BigQuiet
import Derived.Outline
import Derived.WalkSmall
import Derived.Laws.BytesArg
import Derived.WalkLawsBesides
import Derived.Laws.RangeAny
import Derived.Laws.IdiomStrings
namespace Go.Proofs.Ytmlgbglaifnhgaa.og
open Go.ChangeShapes Go.WideShapes Go.ChangeAt Go.RowKit
open vl hiding cB cFl cS cF cI cK cIt
open stp (St Pth St3)
set_option linter.unusedVariables false
set_option linter.unusedSimpArgs false
/-- a path in a block of its own -/
def PO (w : World) (path : List St) (ap : Option Addr) (n : Nat) (F : List Nat) : Prop :=
  n = path.length ∧ ((path = [] ∧ F = []) ∨ ∃ p, ap = some ⟨p, 0, none⟩ ∧ F = [p] ∧ ∀ (j : Nat) (s : St), path[j]? = some s → w.rangeAt p (j * 3) (stC s))
theorem PO.agree {w w' : World} {path : List St} {ap : Option Addr} {n : Nat} {F : List Nat} (h : PO w path ap n F) (ha : ∀ b ∈ F, w'.heap[b]? = w.heap[b]?) : PO w' path ap n F := by
  obtain ⟨h1, h2⟩ := h
  refine ⟨h1, ?_⟩
  rcases h2 with h2 | ⟨p, e, rfl, h2⟩
  · exact .inl h2
  · exact .inr ⟨p, e, rfl, fun j s hs i u hu => (cell_blk (ha p (List.mem_singleton.2 rfl)) _).trans (h2 j s hs i u hu)⟩
theorem PO.pth {w : World} {path : List St} {ap : Option Addr} {n : Nat} {F : List Nat} (h : PO w path ap n F) : Pth w ap n path := by
  obtain ⟨h1, h2⟩ := h
  refine ⟨h1.symm, ?_⟩
  rcases h2 with ⟨rfl, -⟩ | ⟨p, rfl, rfl, h2⟩
  · exact .inl (by simpa using h1)
  · by_cases h0 : n = 0
    · exact .inl h0
    · refine .inr ⟨p, 0, rfl, ?_, fun i hi => ?_⟩
      · obtain ⟨s, hs⟩ : ∃ s, path[0]? = some s := ⟨_, List.getElem?_eq_getElem (by omega)⟩
        exact World.block_lt_of_cell? w _ (h2 0 s hs 0 _ rfl)
      · obtain ⟨s, hs⟩ : ∃ s, path[i]? = some s := ⟨_, List.getElem?_eq_getElem (by omega)⟩
        refine ⟨s, hs, ?_⟩
        have := h2 i s hs
        rw [Nat.zero_add]
        exact ⟨this 0 _ rfl, this 1 _ rfl, this 2 _ rfl⟩
theorem PO.own {V w : World} {path : List St} {ap : Option Addr} {n c : Nat} {F : List Nat} {v : Vl} {cs : List Value} (h : PO w path ap n F) (hv : VlC V v cs) : OwP V w (path, v) (.slice ap n c :: cs) F := ⟨ap, n, c, cs, rfl, hv, h.1, h.2⟩
theorem PO.of_grs {w : World} {B : Nat} {path : List St} {sl : Value} (hne : path ≠ []) (h : GrS B path sl w) : ∃ g cap, sl = .slice (some ⟨g, 0, none⟩) path.length cap ∧ PO w path (some ⟨g, 0, none⟩) path.length [g] ∧ B ≤ g ∧ g < w.heap.size ∧ Fz w [g] := by
  have hl : 0 < path.length := List.length_pos_iff.2 hne
  obtain ⟨g, cap, cs, e, -, -⟩ := GrV.get h (fun e cs h => by rw [h]; rfl) (List.getElem?_eq_getElem hl)
  have hlt := h.lt g (by rw [e]; rfl)
  have hfz : ∀ j, w.frozen? ⟨g, j, none⟩ = false := by
    obtain ⟨xss, h1, -⟩ := h
    rw [e] at h1
    exact fun j => h1.frozenAt j
  refine ⟨g, cap, e, ⟨rfl, .inr ⟨g, rfl, rfl, fun j s hs => ?_⟩⟩, hlt.1, hlt.2, fun b hb j => by rw [List.mem_singleton.1 hb]; exact hfz j⟩
  obtain ⟨g', cap', cs', e', h1, h2⟩ := GrV.get h (fun e cs h => by rw [h]; rfl) hs
  rw [e] at e'
  simp only [Value.slice.injEq, Option.some.injEq, Addr.mk.injEq, and_true] at e'
  obtain ⟨rfl, -⟩ := e'
  rw [h1] at h2
  exact h2
theorem infoPz : ∃ i z, Try.prog.info? 44 = some i ∧ i.zero = some z ∧ i.size = 9 ∧ i.bytes = 136 ∧ z.cells.size = 9 := by
  have hin : (Try.prog.info? 44).map (fun i => (i.bytes, i.size, i.zero.isSome, (i.zero.map (fun z => z.cells.size)))) = some (136, 9, true, some 9) := by kernel_rfl
  cases hq : Try.prog.info? 44 with
  | none => simp [hq] at hin
  | some i =>
    simp [hq] at hin
    obtain ⟨h1, h2, h3, z, hz, h4⟩ := hin
    exact ⟨i, z, rfl, hz, h2, h1, h4⟩
theorem buildP {V : World} {v : Vl} {ds : List Value} (h : VlC V v ds) (ap : Option Addr) (n c : Nat) (w : World) : (Instr.buildSlice 38 1 #[(0, .agg (Value.slice ap n c :: ds).toArray)]).run Try.prog w = .ok (.slice (some ⟨w.heap.size, 0, none⟩) 1 1) (w.alloc (.cells (Value.slice ap n c :: ds).toArray 44)) := by
  cases v
  unfold VlC at h
  obtain ⟨_, _, _, _, _, _, rfl, -⟩ := h
  go_simp
/-- one part more -/
theorem wp_part {V w : World} {l : List (List St × Vl)} {sl : Value} {G F : List Nat} {path : List St} {ap : Option Addr} {n c : Nat} {v : Vl} {ds : List Value} {ops : Array Oper} {rest : List Oper} {o : Oper} {a : Act} {Q : Exit → Act → World → Prop}
    (hG : Grow (OwP V) 44 9 w V.heap.size l sl G) (hB : V.heap.size ≤ w.heap.size) (hP : PO w path ap n F) (hv : VlC V v ds) (hF : F.Nodup ∧ (∀ b ∈ F, V.heap.size ≤ b ∧ b < w.heap.size ∧ b ∉ G ∧ sl.ownBlock ≠ some b) ∧ Fz w F) (hgd : o.guard = none) (s x : Operand)
    (ho : o.op = .call { callee := .builtin .append, args := #[s, x], argTypes := #[38, 38] }) (hs : a.eval s = sl) (N : Nat) (hN : N = w.heap.size) (hx : a.eval x = .slice (some ⟨N, 0, none⟩) 1 1) (hn : l.length + 1 ≤ 1048576)
    (h : ∀ aj nj cj w', Grow (OwP V) 44 9 w' V.heap.size (l ++ [(path, v)]) (.slice aj nj cj) (G ++ F) → Below V.heap.size w w' → (∀ b, b < w.heap.size → sl.ownBlock ≠ some b → w'.heap[b]? = w.heap[b]?) → (∀ k, (Value.slice aj nj cj).ownBlock = some k → sl.ownBlock = some k ∨ w.heap.size ≤ k) → wpList Try.prog ops Q rest (a.put o.dst (.slice aj nj cj)) w') : wpList Try.prog ops Q (o :: rest) a (w.alloc (.cells (Value.slice ap n c :: ds).toArray 44)) := by
  obtain ⟨i, z, hi, hz, hsz, hb, hc⟩ := infoPz
  have d1 := hv.one
  have hone : ∀ u ∈ Value.slice ap n c :: ds, u.oneCell' = true := fun u hu => by
    rcases List.mem_cons.1 hu with rfl | hu
    · rfl
    · exact (Array.all_eq_true_iff_forall_mem.1 d1) u (by simpa using hu)
  refine wpList_plain hgd fun _ hK => wpO_growA (agP V) s x ho Try.underlying38 hi hz hsz hb hc (by omega) V.heap.size l sl G hs hG (path, v) (Value.slice ap n c :: ds) F (hP.own hv) (by simp [hv.cells]) hone hF.1 hF.2.1 hF.2.2 N hN hx (by omega) (by unfold maxLen; omega) hB ?_
  intro sl' w' g1 g2 g3 g4
  obtain ⟨aj, nj, cj, rfl⟩ := g1.form
  exact hK _ _ (h aj nj cj w' g1 g2 g3 g4)
end Go.Proofs.Ytmlgbglaifnhgaa.og
namespace Go.Proofs.Ytmlgbglaifnhgaa.og
open Go.ChangeShapes Go.WideShapes Go.ChangeAt Go.RowKit
open vl hiding cB cFl cS cF cI cK cIt
open stp (St Pth St3)
set_option linter.unusedVariables false
set_option linter.unusedSimpArgs false
/-- ref03.parts at a value -/
def PartsAt (v : Vl) : Prop := ∀ (V : World) (cs : List Value) (w : World) (path : List St) (ap : Option Addr) (n c : Nat) (F : List Nat) (l : List (List St × Vl)) (sl : Value) (G : List Nat),
  VlC V v cs → Below V.heap.size V w → Grow (OwP V) 44 9 w V.heap.size l sl G → PO w path ap n F → (F.Nodup ∧ (∀ b ∈ F, V.heap.size ≤ b ∧ b < w.heap.size ∧ b ∉ G ∧ sl.ownBlock ≠ some b) ∧ Fz w F) → l.length + cnt v ≤ 1048576 → path.length + cnt v ≤ 1048576 →
  Calls Try.prog 31 #[.agg cs.toArray, .slice ap n c, sl] w fun e w' => ∃ sl' G', e = .returned sl' ∧ Grow (OwP V) 44 9 w' V.heap.size (l ++ pts v path) sl' G' ∧ Below V.heap.size w w' ∧ (∀ b, b < w.heap.size → sl.ownBlock ≠ some b → w'.heap[b]? = w.heap[b]?) ∧ (∀ k, sl'.ownBlock = some k → sl.ownBlock = some k ∨ w.heap.size ≤ k)
/-- what the loop keeps -/
structure PrS (V w w2 : World) (sl s4 s5 : Value) (L4 : List St) (L5 : List Vl) (l : List (List St × Vl)) (sl' : Value) (G' : List Nat) (wr : World) : Prop where
  grow : Grow (OwP V) 44 9 wr V.heap.size l sl' G'
  g4 : GrS w2.heap.size L4 s4 wr
  g5 : GrV (fun v cs => VlC V v cs) 27 8 w2.heap.size L5 s5 wr
  bel : Below V.heap.size w wr
  hold : ∀ b, b < w.heap.size → sl.ownBlock ≠ some b → wr.heap[b]? = w.heap[b]?
  ownN : ∀ k, sl'.ownBlock = some k → sl.ownBlock = some k ∨ w.heap.size ≤ k
  own4 : ∀ b, s4.ownBlock = some b ∨ s5.ownBlock = some b → sl'.ownBlock ≠ some b
theorem GrV.keep {E : Type} {R : E → List Value → Prop} {t : TypeId} {size B : Nat} {l : List E} {sl : Value} {w w' : World} (h : GrV R t size B l sl w) (hk : ∀ b, sl.ownBlock = some b → w'.heap[b]? = w.heap[b]?) : GrV R t size B l sl w' := by
  obtain ⟨xss, h1, h2⟩ := h
  exact ⟨xss, ⟨h1.1, h1.2.imp id (fun ⟨g, cap, cur, e, hg, hh, r⟩ => ⟨g, cap, cur, e, hg, (hk g (by rw [e]; rfl)).trans hh, r⟩)⟩, h2⟩
theorem GrV.form {E : Type} {R : E → List Value → Prop} {t : TypeId} {size B : Nat} {l : List E} {sl : Value} {w : World} (h : GrV R t size B l sl w) : ∃ a c, sl = .slice a l.length c := by
  obtain ⟨xss, h1, h2⟩ := h
  rcases h1.2 with ⟨e, h0⟩ | ⟨g, cap, cur, e, -⟩
  · exact ⟨none, 0, by rw [e, h0]⟩
  · exact ⟨_, _, e⟩
theorem cnt_kid {v : Vl} {k : Nat} {q : St × Vl} (h : (kids v)[k]? = some q) : cnt q.2 + (((kids v).take k).map (fun q => cnt q.2)).sum + 1 ≤ cnt v := by
  rw [cnt_kids v]
  have e : kids v = (kids v).take k ++ (kids v).drop k := (List.take_append_drop k _).symm
  have hk := (List.getElem?_eq_some_iff.1 h)
  obtain ⟨hk, he⟩ := hk
  have e2 : ((kids v).map (fun q => cnt q.2)).sum = (((kids v).take k).map (fun q => cnt q.2)).sum + (((kids v).drop k).map (fun q => cnt q.2)).sum := by
    conv => lhs; rw [e]
    rw [List.map_append, List.sum_append]
  rw [e2, List.drop_eq_getElem_cons hk, he, List.map_cons, List.sum_cons]
  omega
theorem flat_len (path : List St) : ∀ l : List (St × Vl), (l.flatMap (fun q => pts q.2 (path ++ [q.1]))).length = (l.map (fun q => cnt q.2)).sum
  | [] => rfl
  | a :: l => by rw [List.flatMap_cons, List.length_append, pts_len, flat_len path l]; simp
end Go.Proofs.Ytmlgbglaifnhgaa.og
namespace Go.Proofs.Ytmlgbglaifnhgaa.og
open Go.ChangeShapes Go.WideShapes Go.ChangeAt Go.RowKit
open vl hiding cB cFl cS cF cI cK cIt
open stp (St Pth St3)
set_option linter.unusedVariables false
set_option linter.unusedSimpArgs false
set_option maxHeartbeats 8000000 in
set_option maxRecDepth 6000 in
theorem parts_step (v : Vl) (hsm : Small v) (ih : ∀ q ∈ kids v, PartsAt q.2) : PartsAt v := by
  intro V cs w path ap n c F l sl G hv hVw hG hP hF hb1 hb2
  obtain ⟨aS, nS, cS, rfl⟩ := hG.form
  have c8 := hv.cells
  have hcs : ∃ c0 c1 c2 c3 c4 c5 c6 c7, cs = [c0, c1, c2, c3, c4, c5, c6, c7] := by
    match cs, c8 with
    | [c0, c1, c2, c3, c4, c5, c6, c7], _ => exact ⟨c0, c1, c2, c3, c4, c5, c6, c7, rfl⟩
  obtain ⟨c0, c1, c2, c3, c4, c5, c6, c7, rfl⟩ := hcs
  have iv : (Try.prog.info? 27).map (·.size) = some [c0, c1, c2, c3, c4, c5, c6, c7].length := infoV
  obtain ⟨W, eW⟩ : ∃ W, W = w.alloc (.cells [c0, c1, c2, c3, c4, c5, c6, c7].toArray 27) := ⟨_, rfl⟩
  have bW : Below w.heap.size w W := by rw [eW]; exact (Below.refl _ _).alloc (Nat.le_refl _) _
  have sW : W.heap.size = w.heap.size + 1 := by rw [eW]; simp
  have rW : W.rangeAt w.heap.size 0 [c0, c1, c2, c3, c4, c5, c6, c7] := fun j u hu => by rw [Nat.zero_add, eW, World.cell?_alloc_at _ _ _ _ rfl]; simpa using hu
  have hlt0 : ∀ b, (Value.slice aS nS cS).ownBlock = some b → V.heap.size ≤ b ∧ b < w.heap.size := fun b hb => let ⟨xss, hr, _⟩ := hG.row; hr.lt b hb
  have hGW := hG.below (agP V) bW
  have hPW : PO W path ap n F := hP.agree (fun b hb => bW.block b (hF.2.1 b hb).2.1)
  have hFW : F.Nodup ∧ (∀ b ∈ F, V.heap.size ≤ b ∧ b < W.heap.size ∧ b ∉ G ∧ (Value.slice aS nS cS).ownBlock ≠ some b) ∧ Fz W F :=
    ⟨hF.1, fun b hb => ⟨(hF.2.1 b hb).1, by have := (hF.2.1 b hb).2.1; omega, (hF.2.1 b hb).2.2⟩, fun b hb j => (frozen_blk (bW.block b (hF.2.1 b hb).2.1) j).trans (hF.2.2 b hb j)⟩
  have cp : 1 ≤ cnt v := by rw [cnt_kids]; omega
  have hn1 : l.length + 1 ≤ 1048576 := by omega
  have hVW : V.heap.size ≤ W.heap.size := by have := hVw.size; omega
  have A := hide (And.intro hGW (And.intro hVW (And.intro hPW (And.intro hv (And.intro hFW (And.intro hn1 (And.intro rW iv)))))))
  have hbd := hide (buildP hv ap n c W)
  have EW := hide eW
  have SW := hide sW
  clear hGW hVW hPW hFW hn1 rW iv eW sW
  go_enter Try.func31, Try.ntmps31
  go_wp2_with (first
    | (rw [← unhide EW]; refine wpList_load_mid (by rfl) 27 _ (by rfl) w.heap.size 0 (by rfl) [c0, c1, c2, c3, c4, c5, c6, c7] _ (unhide A).2.2.2.2.2.2.1 Try.underlying27 (by rfl) (unhide A).2.2.2.2.2.2.2 ?_)
    | refine wpList_buildOne (by rfl) 38 _ (by rfl) (.agg (Value.slice ap n c :: [c0, c1, c2, c3, c4, c5, c6, c7]).toArray) _ (by rfl) (unhide hbd) ?_
    | (at_builtin; go_loud (refine wp_part (unhide A).1 (unhide A).2.1 (unhide A).2.2.1 (unhide A).2.2.2.1 (unhide A).2.2.2.2.1 (by rfl) _ _ (by rfl) (by rfl) W.heap.size rfl (by rfl) (unhide A).2.2.2.2.2.1 ?_; intro aj nj cj w2 g1 g2 g3 g4; have D := hide (And.intro g1 (And.intro g2 (And.intro g3 g4))); clear g1 g2 g3 g4))
    | refine wpList_load_mid (by rfl) 27 _ (by rfl) w.heap.size 0 (by rfl) [c0, c1, c2, c3, c4, c5, c6, c7] _ (fun j u hu => (cell_blk ((unhide D).2.2.1 w.heap.size (by have := unhide SW; omega) (fun e => by have := (hlt0 _ e).2; omega)) _).trans ((unhide A).2.2.2.2.2.2.1 j u hu)) Try.underlying27 (by rfl) (unhide A).2.2.2.2.2.2.2 ?_)
  have hD := unhide D
  have hVw2 : Below V.heap.size V w2 := (hVw.trans (bW.mono hVw.size)).trans hD.2.1
  have hw2 : W.heap.size ≤ w2.heap.size := hD.2.1.size
  refine (cg_ok v hsm V _ w2 hVw2 (unhide A).2.2.2.1).mono ?_
  rintro e w3 ⟨s4, s5, rfl, hcg⟩
  obtain ⟨a4, c4', e4⟩ := hcg.g4.form
  obtain ⟨a5, c5', e5⟩ := hcg.g5.form
  rw [List.length_map] at e4 e5
  have P0 := hide (show PrS V w w2 (.slice aS nS cS) s4 s5 ((kids v).map Prod.fst) ((kids v).map Prod.snd) (l ++ [(path, v)]) (.slice aj nj cj) (G ++ F) w3 from {
    grow := hD.1.below (agP V) hcg.bel
    g4 := hcg.g4
    g5 := hcg.g5
    bel := ((bW.mono hVw.size).trans hD.2.1).trans (hcg.bel.mono hVw2.size)
    hold := fun b hb hne => by
      have hs := unhide SW
      exact ((hcg.bel.block b (by omega)).trans (hD.2.2.1 b (by omega) hne)).trans (bW.block b hb)
    ownN := fun k hk => by
      have hs := unhide SW
      rcases hD.2.2.2 k hk with h | h
      · exact .inl h
      · exact .inr (by omega)
    own4 := fun b hb e => by
      have h1 : b < w2.heap.size := by obtain ⟨xss, hr, _⟩ := hD.1.row; exact (hr.lt b e).2
      rcases hb with hb | hb
      · have := (hcg.g4.lt b hb).1; omega
      · have := (hcg.g5.lt b hb).1; omega })
  have HPP := hide hP
  have HFF := hide hF
  have HV := hide (unhide A).2.2.2.1
  have HVw := hide hVw
  have HVw2 := hide hVw2
  have HPT := hide (pts_kids v path)
  have HCK := hide (fun k q => @cnt_kid v k q)
  have HCN : (kids v).length ≤ 1048576 := by
    have h1 := cnt_kids v
    have h2 : ∀ l : List (St × Vl), l.length ≤ (l.map (fun p => cnt p.2)).sum := by
      intro l
      induction l with
      | nil => simp
      | cons a r ih2 =>
        have : 1 ≤ cnt a.2 := by rw [cnt_kids]; omega
        simp; omega
    have := h2 (kids v)
    omega
  clear hD hcg D A hbd hVw2 hw2 hP hF hv hVw hG bW EW SW
  obtain ⟨ks, eks⟩ : ∃ ks, ks = kids v := ⟨_, rfl⟩
  rw [← eks] at P0 HPT HCK HCN e4 e5 ih
  clear eks
  subst e4 e5
  go_wp2_with fail
  go_loopw [9, 2] (fun vi v2 wr => ∃ (k : Nat) (sl' : Value) (G' : List Nat), k ≤ ks.length ∧ vi = .int .i64 k ∧ v2 = sl' ∧ vl.Hid (PrS V w w2 (.slice aS nS cS) (.slice a4 ks.length c4') (.slice a5 ks.length c5') (ks.map Prod.fst) (ks.map Prod.snd) (l ++ (path, v) :: (ks.take k).flatMap (fun q => pts q.2 (path ++ [q.1]))) sl' G' wr)) (fun vi _ _ => ks.length - (intOf vi).toNat)
  case atStart => exact ⟨0, _, _, Nat.zero_le _, rfl, rfl, by rw [List.take_zero, List.flatMap_nil]; exact P0⟩
  case round =>
    clear P0
    obtain ⟨k, sl', G', hk1, rfl, hv2, HS⟩ := hrel
    have hv2 := hv2.symm
    subst hv2
    by_cases hlt : k < ks.length
    · have ki : (k : Int) < (ks.length : Int) := by omega
      have hS := unhide HS
      obtain ⟨⟨st, u⟩, hq⟩ : ∃ q, ks[k]? = some q := ⟨_, List.getElem?_eq_getElem hlt⟩
      obtain ⟨b4, cap4, cs4, e4, h4, r4⟩ := GrV.get hS.g4 (fun e cs h => by rw [h]; rfl) (k := k) (e := st) (by rw [List.getElem?_map, hq]; rfl)
      obtain ⟨b5, cap5, us, e5, h5, r5⟩ := GrV.get hS.g5 (fun e cs h => h.cells) (k := k) (e := u) (by rw [List.getElem?_map, hq]; rfl)
      simp only [Value.slice.injEq] at e4 e5
      obtain ⟨rfl, -, rfl⟩ := e4
      obtain ⟨rfl, -, rfl⟩ := e5
      subst h4
      have hpth := (unhide HPP).agree (fun b hb => hS.hold b ((unhide HFF).2.1 b hb).2.1 ((unhide HFF).2.1 b hb).2.2.2)
      have hck := unhide HCK k (st, u) hq
      have HLO := hide (longer_ok path st ap n c wr hpth.pth (by have := (unhide HPP).1; omega))
      have R4 := hide r4
      have R5 := hide r5
      have H5 := hide h5
      have Hq := hide hq
      have HB := hide (And.intro hck (flat_len path (ks.take k)))
      clear hS r4 r5 h5 hpth hck hq
      go_wp2_with (refine wpList_load_mid (by rfl) 34 _ (by rfl) b4 (k * 3) (by rfl) (stC st) _ (unhide R4) Try.underlying34 (by rfl) infoS3 ?_)
      refine (unhide HLO).mono ?_
      rintro e w5 ⟨slp, rfl, hgs, b5b⟩
      obtain ⟨g, cap, rfl, hpo, hg1, hg2, hfz⟩ := PO.of_grs (by simp) hgs
      have hln : (path ++ [st]).length = path.length + 1 := by simp
      rw [hln] at hpo ⊢
      clear hln
      have R6 := hide (Row8.below (unhide R5) b5b)
      have iu := hide (show (Try.prog.info? 27).map (·.size) = some us.length by rw [(unhide H5).cells]; exact infoV)
      have X := hide (And.intro hpo (And.intro hg1 (And.intro hg2 (And.intro hfz b5b))))
      clear hgs hpo hg1 hg2 hfz b5b HLO
      have hS := unhide HS
      obtain ⟨hpo, hg1, hg2, hfz, b5b⟩ := unhide X
      have hown : ∀ b, sl'.ownBlock = some b → b < wr.heap.size := fun b (hb : sl'.ownBlock = some b) => by obtain ⟨xss, hr, _⟩ := hS.grow.row; exact (hr.lt b hb).2
      have hwr : V.heap.size ≤ wr.heap.size := Nat.le_trans (unhide HVw).size hS.bel.size
      have hih := (ih (st, u) (List.mem_of_getElem? (unhide Hq)) V us w5 (path ++ [st]) (some ⟨g, 0, none⟩) (path.length + 1) cap [g] (l ++ (path, v) :: (ks.take k).flatMap (fun q => pts q.2 (path ++ [q.1]))) sl' G' (unhide H5) (((unhide HVw).trans hS.bel).trans (b5b.mono hwr)) (hS.grow.below (agP V) b5b) hpo ⟨by simp, fun b hb => by
          rw [List.mem_singleton.1 hb]
          exact ⟨by omega, hg2, fun hm => by have := (hS.grow.rng g hm).2; omega, fun e => by have := hown g e; omega⟩, hfz⟩ (by
          have h1 := (unhide HB).1
          have h2 := (unhide HB).2
          rw [List.length_append, List.length_cons, h2]
          simp only at h1 ⊢
          omega) (by
          have h1 := (unhide HB).1
          rw [List.length_append]
          simp only [List.length_singleton] at h1 ⊢
          omega))
      have HIH := hide hih
      clear hih hS hpo hg1 hg2 hfz b5b hown hwr
      go_wp2_with (refine wpList_load_mid (by rfl) 27 _ (by rfl) b5 (k * 8) (by rfl) us _ (unhide R6) Try.underlying27 (by rfl) (unhide iu) ?_)
      refine (unhide HIH).mono ?_
      rintro e w6 ⟨sl6, G6, rfl, gr6, be6, ho6, on6⟩
      have hS := unhide HS
      obtain ⟨hpo, hg1, hg2, hfz, b5b⟩ := unhide X
      have hwr : V.heap.size ≤ wr.heap.size := Nat.le_trans (unhide HVw).size hS.bel.size
      have hb5s := b5b.size
      have P6 := hide (show PrS V w w2 (.slice aS nS cS) (.slice (some ⟨b4, 0, none⟩) ks.length c4') (.slice (some ⟨b5, 0, none⟩) ks.length c5') (ks.map Prod.fst) (ks.map Prod.snd) _ sl6 G6 w6 from {
        grow := gr6
        g4 := hS.g4.keep (fun b hb => (ho6 b (by have := (hS.g4.lt b hb).2; omega) (hS.own4 b (.inl hb))).trans (b5b.block b (hS.g4.lt b hb).2))
        g5 := hS.g5.keep (fun b hb => (ho6 b (by have := (hS.g5.lt b hb).2; omega) (hS.own4 b (.inr hb))).trans (b5b.block b (hS.g5.lt b hb).2))
        bel := (hS.bel.trans (b5b.mono hwr)).trans be6
        hold := fun b hb hne => by
          have hws := hS.bel.size
          refine ((ho6 b (by omega) (fun e => ?_)).trans (b5b.block b (by omega))).trans (hS.hold b hb hne)
          rcases hS.ownN b e with h | h
          · exact hne h
          · omega
        ownN := fun q hq => by
          have hws := hS.bel.size
          rcases on6 q hq with h | h
          · exact hS.ownN q h
          · exact .inr (by omega)
        own4 := fun b hb e => by
          rcases on6 b e with h | h
          · exact hS.own4 b hb h
          · rcases hb with hb | hb
            · have := (hS.g4.lt b hb).2; omega
            · have := (hS.g5.lt b hb).2; omega })
      clear hS hpo hg1 hg2 hfz b5b hwr gr6 be6 ho6 on6 X
      go_wp2
      go_roundw
      case rel => exact ⟨k + 1, sl6, G6, by omega, by go_num, rfl, by rw [List.take_add_one, unhide Hq, List.flatMap_append]; simpa using P6⟩
      case measure => simp [intOf]; omega
    · obtain rfl : k = ks.length := by omega
      have hS := unhide HS
      rw [List.take_length, ← unhide HPT] at hS
      have HS2 := hide hS
      clear hS HS
      go_wp2
      go_ret
      exact ⟨_, rfl, ⟨G', (unhide HS2).grow⟩, (unhide HS2).bel, (unhide HS2).hold, (unhide HS2).ownN⟩
theorem parts_ok : ∀ v : Vl, Small v → PartsAt v := by
  refine Vl.all ?_
  intro kd b n f tx ty its fls hI hF hv
  have hv0 := hv
  unfold Small at hv
  exact parts_step _ hv0 (mem_kids (P := PartsAt) (fun v hm => hI v hm (hv.2.2.2.1.all _ hm)) (fun q hm => hF q hm (hv.2.2.2.2.all _ hm)))
end Go.Proofs.Ytmlgbglaifnhgaa.og
namespace Go.Proofs.Ytmlgbglaifnhgaa.ints
open Go.ChangeShapes Go.WideShapes Go.ChangeAt Go.RowKit

theorem hide {p : Prop} (h : p) : Hid p := h
theorem unhide {p : Prop} (h : Hid p) : p := h
end Go.Proofs.Ytmlgbglaifnhgaa.ints
namespace Go.Proofs.Ytmlgbglaifnhgaa.mem
open Go.ChangeShapes Go.WideShapes Go.ChangeAt Go.RowKit
open ints (hide unhide)
set_option linter.unusedVariables false

/-- What is known of a slice of integers that is only read: its elements. -/
structure Row (k : IntKind) (w : World) (a : Option Addr) (n cap : Nat) (zs : List Int) : Prop where
  len : zs.length = n
  le : n ≤ cap
  nil : a = none → cap = 0
  at_ : n = 0 ∨ ∃ b off, a = some ⟨b, off, none⟩ ∧ b < w.heap.size ∧ ∀ i, i < n → w.cell? ⟨b, off + i, none⟩ = some (.int k (zs.getD i 0))

theorem Row.below {k : IntKind} {w w' : World} {a : Option Addr} {n cap : Nat} {zs : List Int} (h : Row k w a n cap zs) (hb : Below w.heap.size w w') : Row k w' a n cap zs := by
  refine ⟨h.len, h.le, h.nil, ?_⟩
  rcases h.at_ with h0 | ⟨b, off, ha, hlt, hc⟩
  · exact .inl h0
  · exact .inr ⟨b, off, ha, Nat.lt_of_lt_of_le hlt hb.size, fun i hi => (hb.cell (by exact hlt)).trans (hc i hi)⟩
theorem below_drewN {B : Nat} {w wr : World} (h : Below B w wr) (n : Nat) : Below B w (wr.drewN n) := Go.below_drewN h n
theorem Row.cells {k : IntKind} {w : World} {a : Option Addr} {n cap : Nat} {zs : List Int} (h : Row k w a n cap zs) : ∀ ad, a = some ad → ∀ j u, (zs.map (Value.int k))[j]? = some u → w.cell? (ad.add j) = some u := by
  intro ad had j u hu
  have hj : j < n := by
    have := (List.getElem?_eq_some_iff.1 hu).1
    simpa [h.len] using this
  rcases h.at_ with h0 | ⟨b, off, rfl, _, hc⟩
  · omega
  · obtain rfl := Option.some.inj had
    rw [Addr.add_lit, hc j hj]
    have e : (zs.map (Value.int k))[j]? = some (.int k (zs.getD j 0)) := by
      simp [List.getD, show j < zs.length by rw [h.len]; exact hj]
    rw [e] at hu
    exact hu
theorem own_row {k : IntKind} {w : World} {base : Nat} {e : TypeId} {v : Value} {n : Nat} {zs : List Int} (h : w.ownsRow base e 1 v n (zs.map (Value.int k))) :
    ∃ a cap, v = .slice a n cap ∧ Row k w a n cap zs := by
  obtain ⟨h1, h2⟩ := h
  have hl : zs.length = n := by simpa using h1
  rcases h2 with ⟨rfl, rfl⟩ | ⟨g, cap, cur, rfl, hg, hh, hnc, hcm, hcs, hx⟩
  · exact ⟨none, 0, rfl, hl, Nat.le_refl _, fun _ => rfl, .inl rfl⟩
  · refine ⟨_, cap, rfl, hl, hnc, (fun h => by cases h), .inr ⟨g, 0, rfl, (by rcases Nat.lt_or_ge g w.heap.size with h | h; exact h; rw [Array.getElem?_eq_none h] at hh; cases hh), fun i hi => ?_⟩⟩
    rw [World.ownsRow.cellAt (base := base) (e := e) (size := 1) (n := n) (cap := cap) (xs := zs.map (Value.int k)) ⟨h1, .inr ⟨g, cap, cur, rfl, hg, hh, hnc, hcm, hcs, hx⟩⟩ _ (by omega)]
    simp [List.getD, show i < zs.length by omega]
theorem own_below {w w' : World} {base : Nat} {e : TypeId} {size : Nat} {v : Value} {n : Nat} {xs : List Value} (h : w.ownsRow base e size v n xs) (hb : Below w.heap.size w w') : w'.ownsRow base e size v n xs := by
  obtain ⟨h1, h2⟩ := h
  refine ⟨h1, ?_⟩
  rcases h2 with h2 | ⟨g, cap, cur, hv, hg, hh, r⟩
  · exact .inl h2
  · have hl : g < w.heap.size := by rcases Nat.lt_or_ge g w.heap.size with h | h; exact h; rw [Array.getElem?_eq_none h] at hh; cases hh
    exact .inr ⟨g, cap, cur, hv, hg, (hb.block g hl).trans hh, r⟩
theorem belowNone {w w' : World} (h : w.grownBy w' none) : Below w.heap.size w w' := (Below.refl _ _).grown h (Nat.le_refl _) (fun k hk => by cases hk)
theorem getD_ext {xs ys : List Int} (h : xs.length = ys.length) (e : ∀ j, j < xs.length → xs.getD j 0 = ys.getD j 0) : xs = ys := by
  refine List.ext_getElem h fun i h1 h2 => ?_
  have := e i h1
  simpa [List.getD_eq_getElem?_getD, h1, h2] using this

theorem info32 : (Try.prog.info? 21).map (fun i => (i.zero, i.size, i.bytes)) = some (some (.int .i32 0), 1, 4) := by kernel_rfl
theorem info8 : (Try.prog.info? 5).map (fun i => (i.zero, i.size, i.bytes)) = some (some (.int .u8 0), 1, 1) := by kernel_rfl

theorem row_string {P : Program} {w : World} {a : Option Addr} {n c : Nat} {zs : List Int} (h : Row .u8 w a n c zs) (src dst e : TypeId) (hs : P.underlying src = some (.slice e)) (he : P.underlying e = some (.int .u8)) (hd : P.underlying dst = some .string) :
    (convert src dst (.slice a n c)).run P w = .ok (.string (strOfNums zs)) w := by
  rcases h.at_ with h0 | ⟨b, off, rfl, hb, hc⟩
  · subst h0
    have hz : zs = [] := List.eq_nil_of_length_eq_zero h.len
    subst hz
    cases a with
    | none =>
      rw [run_convert_bytes_nil w src e hs he 0 c dst hd]
      rfl
    | some ad =>
      have hl : (loadCells ad 0).run P w = .ok (([] : List Int).map (Value.int .u8)).toArray w := by
        have := run_loadCells_list (P := P) w ad ([] : List Value) (fun j v hj => by simp at hj)
        simpa using this
      rw [run_convert_bytes_string w src dst e _ 0 c hs he hd, run_bytesToString w _ 0 c [] hl]
      rfl
  · exact run_convert_bytes_arg w src e hs he b off n c zs h.len hc dst hd
end Go.Proofs.Ytmlgbglaifnhgaa.mem
namespace Go.Proofs.Ytmlgbglaifnhgaa.mem
open Go.ChangeShapes Go.WideShapes Go.ChangeAt Go.RowKit
open ints (hide unhide)
set_option linter.unusedVariables false

def scP (c : Int) : Prop := (0 ≤ c ∧ c ≤ 55295) ∨ (57344 ≤ c ∧ c ≤ 1114111)
def scB (c : Int) : Bool := (decide (0 ≤ c) && decide (c ≤ 55295)) || (decide (57344 ≤ c) && decide (c ≤ 1114111))
theorem scB_iff (c : Int) : scB c = true ↔ scP c := by simp [scB, scP]
def putB (c : Int) : List Int :=
  if c < 128 then [c]
  else if c < 2048 then [192 + c / 64, 128 + c % 64]
  else if c < 65536 then [224 + c / 4096, 128 + c / 64 % 64, 128 + c % 64]
  else [240 + c / 262144, 128 + c / 4096 % 64, 128 + c / 64 % 64, 128 + c % 64]
theorem putB_len (c : Int) : 1 ≤ (putB c).length ∧ (putB c).length ≤ 4 := by
  unfold putB; repeat' split
  all_goals simp
theorem putB_1 {c : Int} (h : c < 128) : putB c = [c] := if_pos h
theorem putB_2 {c : Int} (h0 : 128 ≤ c) (h : c < 2048) : putB c = [192 + c / 64, 128 + c % 64] := by
  unfold putB; rw [if_neg (by omega), if_pos h]
theorem putB_3 {c : Int} (h0 : 2048 ≤ c) (h : c < 65536) : putB c = [224 + c / 4096, 128 + c / 64 % 64, 128 + c % 64] := by
  unfold putB; rw [if_neg (by omega), if_neg (by omega), if_pos h]
theorem putB_4 {c : Int} (h0 : 65536 ≤ c) : putB c = [240 + c / 262144, 128 + c / 4096 % 64, 128 + c / 64 % 64, 128 + c % 64] := by
  unfold putB; rw [if_neg (by omega), if_neg (by omega), if_neg (by omega)]

end Go.Proofs.Ytmlgbglaifnhgaa.mem
namespace Go.Proofs.Ytmlgbglaifnhgaa.mem
open Go.ChangeShapes Go.WideShapes Go.ChangeAt Go.RowKit
open ints (hide unhide)
set_option linter.unusedVariables false

def encS (zs : List Int) : ByteArray := if zs.all scB = true then strOfNums (zs.flatMap putB) else ⟨#[]⟩
theorem encS_yes {zs : List Int} (h : zs.all scB = true) : encS zs = strOfNums (zs.flatMap putB) := if_pos h
theorem encS_no {zs : List Int} (h : zs.all scB = false) : encS zs = ⟨#[]⟩ := if_neg (by rw [h]; simp)
def flat (zs : List Int) (k : Nat) : List Int := (zs.take k).flatMap putB
theorem flat_zero (zs : List Int) : flat zs 0 = [] := rfl
theorem flat_succ (zs : List Int) (k : Nat) (h : k < zs.length) : flat zs (k + 1) = flat zs k ++ putB (zs.getD k 0) := by
  unfold flat
  rw [List.take_succ_eq_append_getElem h, List.flatMap_append]
  simp [List.getD, h]
theorem flat_len (zs : List Int) (k : Nat) : (flat zs k).length ≤ 4 * k := by
  unfold flat
  have : ∀ l : List Int, (l.flatMap putB).length ≤ 4 * l.length := by
    intro l
    induction l with
    | nil => simp
    | cons a l ih => have := putB_len a; rw [List.flatMap_cons, List.length_append, List.length_cons]; omega
  have h1 := this (zs.take k)
  have h2 : (zs.take k).length ≤ k := List.length_take_le _ _
  omega
theorem flat_all (zs : List Int) (k : Nat) (h : zs.length ≤ k) : flat zs k = zs.flatMap putB := by
  unfold flat; rw [List.take_of_length_le h]
theorem all_of (zs : List Int) (h : ∀ j, j < zs.length → scP (zs.getD j 0)) : zs.all scB = true := by
  rw [List.all_eq_true]
  intro x hx
  obtain ⟨i, hi, rfl⟩ := List.mem_iff_getElem.1 hx
  have := h i hi
  rw [scB_iff]
  simpa [List.getD, hi] using this
theorem not_all (zs : List Int) (k : Nat) (hk : k < zs.length) (h : ¬ scP (zs.getD k 0)) : zs.all scB = false := by
  rw [List.all_eq_false]
  refine ⟨zs.getD k 0, by simp [List.getD, hk], ?_⟩
  intro e
  exact h ((scB_iff _).1 e)

end Go.Proofs.Ytmlgbglaifnhgaa.mem
namespace Go.Proofs.Ytmlgbglaifnhgaa.mem
open Go.ChangeShapes Go.WideShapes Go.ChangeAt Go.RowKit
open ints (hide unhide)
set_option linter.unusedVariables false

def oneQ (n : Nat) (b0 b1 b2 b3 : Int) : Int × Nat :=
  if 0 < n ∧ b0 < 128 then (b0, 1)
  else if 1 < n ∧ b0 / 32 = 6 ∧ b1 / 64 = 2 ∧ 128 ≤ b0 % 32 * 64 + b1 % 64 then (b0 % 32 * 64 + b1 % 64, 2)
  else if 2 < n ∧ b0 / 16 = 14 ∧ b1 / 64 = 2 ∧ b2 / 64 = 2 ∧ 2048 ≤ b0 % 16 * 4096 + b1 % 64 * 64 + b2 % 64 ∧ (b0 % 16 * 4096 + b1 % 64 * 64 + b2 % 64 ≤ 55295 ∨ 57344 ≤ b0 % 16 * 4096 + b1 % 64 * 64 + b2 % 64) then (b0 % 16 * 4096 + b1 % 64 * 64 + b2 % 64, 3)
  else if 3 < n ∧ b0 / 8 = 30 ∧ b1 / 64 = 2 ∧ b2 / 64 = 2 ∧ b3 / 64 = 2 ∧ 65536 ≤ b0 % 8 * 262144 + b1 % 64 * 4096 + b2 % 64 * 64 + b3 % 64 ∧ b0 % 8 * 262144 + b1 % 64 * 4096 + b2 % 64 * 64 + b3 % 64 ≤ 1114111 then (b0 % 8 * 262144 + b1 % 64 * 4096 + b2 % 64 * 64 + b3 % 64, 4)
  else (0, 0)
def oneL (l : List Int) : Int × Nat := oneQ l.length (l.getD 0 0) (l.getD 1 0) (l.getD 2 0) (l.getD 3 0)
def Byt (l : List Int) : Prop := ∀ z ∈ l, 0 ≤ z ∧ z ≤ 255

theorem byt_getD {l : List Int} (h : Byt l) (i : Nat) : 0 ≤ l.getD i 0 ∧ l.getD i 0 ≤ 255 := by
  by_cases hi : i < l.length
  · have := h (l.getD i 0) (by simp [List.getD, hi])
    exact this
  · simp [List.getD, List.getElem?_eq_none (show l.length ≤ i by omega)]
theorem byt_drop {l : List Int} (h : Byt l) (i : Nat) : Byt (l.drop i) := fun z hz => h z (List.mem_of_mem_drop hz)
theorem putB_byt {c : Int} (h : scP c) : Byt (putB c) := by
  intro z hz
  unfold scP at h
  unfold putB at hz
  repeat' split at hz
  all_goals simp at hz
  all_goals omega

/-- What is written is read. -/
theorem one_put (c : Int) (h : scP c) (r : List Int) : oneL (putB c ++ r) = (c, (putB c).length) := by
  unfold scP at h
  by_cases h1 : c < 128
  · rw [putB_1 h1]
    simp only [oneL, oneQ, List.cons_append, List.nil_append, List.length_cons, List.length_nil, List.getD_cons_zero]
    rw [if_pos (by omega)]
  by_cases h2 : c < 2048
  · rw [putB_2 (by omega) h2]
    simp only [oneL, oneQ, List.cons_append, List.nil_append, List.length_cons, List.length_nil, List.getD_cons_zero, List.getD_cons_succ]
    rw [if_neg (by omega), if_pos (by omega)]
    refine Prod.ext ?_ rfl
    show _ = c
    omega
  by_cases h3 : c < 65536
  · rw [putB_3 (by omega) h3]
    simp only [oneL, oneQ, List.cons_append, List.nil_append, List.length_cons, List.length_nil, List.getD_cons_zero, List.getD_cons_succ]
    rw [if_neg (by omega), if_neg (by omega), if_pos (by omega)]
    refine Prod.ext ?_ rfl
    show _ = c
    omega
  · rw [putB_4 (by omega)]
    simp only [oneL, oneQ, List.cons_append, List.nil_append, List.length_cons, List.length_nil, List.getD_cons_zero, List.getD_cons_succ]
    rw [if_neg (by omega), if_neg (by omega), if_neg (by omega), if_pos (by omega)]
    refine Prod.ext ?_ rfl
    show _ = c
    omega
/-- What is read was so written. -/
theorem one_back (l : List Int) (hb : Byt l) (h : (oneL l).2 ≠ 0) : scP (oneL l).1 ∧ l = putB (oneL l).1 ++ l.drop (oneL l).2 ∧ (oneL l).2 = (putB (oneL l).1).length := by
  have g0 := byt_getD hb 0
  have g1 := byt_getD hb 1
  have g2 := byt_getD hb 2
  have g3 := byt_getD hb 3
  match l, hb, h, g0, g1, g2, g3 with
  | [], _, h, _, _, _, _ => exact absurd rfl h
  | [b0], _, h, g0, _, _, _ =>
    simp only [List.getD_cons_zero] at g0
    by_cases c1 : b0 < 128
    · have e : oneL [b0] = (b0, 1) := by simp only [oneL, oneQ, List.length_cons, List.length_nil, List.getD_cons_zero]; rw [if_pos (by omega)]
      rw [e, putB_1 c1]
      exact ⟨by unfold scP; simp only; omega, rfl, rfl⟩
    · have e : oneL [b0] = (0, 0) := by
        simp only [oneL, oneQ, List.length_cons, List.length_nil, List.getD_cons_zero]
        rw [if_neg (by omega), if_neg (by omega), if_neg (by omega), if_neg (by omega)]
      rw [e] at h; exact absurd rfl h
  | [b0, b1], _, h, g0, g1, _, _ =>
    simp only [List.getD_cons_zero, List.getD_cons_succ] at g0 g1
    by_cases c1 : b0 < 128
    · have e : oneL [b0, b1] = (b0, 1) := by simp only [oneL, oneQ, List.length_cons, List.length_nil, List.getD_cons_zero]; rw [if_pos (by omega)]
      rw [e, putB_1 c1]
      exact ⟨by unfold scP; simp only; omega, rfl, rfl⟩
    by_cases c2 : b0 / 32 = 6 ∧ b1 / 64 = 2 ∧ 128 ≤ b0 % 32 * 64 + b1 % 64
    · have e : oneL [b0, b1] = (b0 % 32 * 64 + b1 % 64, 2) := by
        simp only [oneL, oneQ, List.length_cons, List.length_nil, List.getD_cons_zero, List.getD_cons_succ]; rw [if_neg (by omega), if_pos (by omega)]
      rw [e, putB_2 (by simp only; omega) (by simp only; omega)]
      refine ⟨by unfold scP; simp only; omega, ?_, rfl⟩
      simp
      omega
    · have e : oneL [b0, b1] = (0, 0) := by
        simp only [oneL, oneQ, List.length_cons, List.length_nil, List.getD_cons_zero, List.getD_cons_succ]
        rw [if_neg (by omega), if_neg (by omega), if_neg (by omega), if_neg (by omega)]
      rw [e] at h; exact absurd rfl h
  | [b0, b1, b2], _, h, g0, g1, g2, _ =>
    simp only [List.getD_cons_zero, List.getD_cons_succ] at g0 g1 g2
    by_cases c1 : b0 < 128
    · have e : oneL [b0, b1, b2] = (b0, 1) := by simp only [oneL, oneQ, List.length_cons, List.length_nil, List.getD_cons_zero]; rw [if_pos (by omega)]
      rw [e, putB_1 c1]
      exact ⟨by unfold scP; simp only; omega, rfl, rfl⟩
    by_cases c2 : b0 / 32 = 6 ∧ b1 / 64 = 2 ∧ 128 ≤ b0 % 32 * 64 + b1 % 64
    · have e : oneL [b0, b1, b2] = (b0 % 32 * 64 + b1 % 64, 2) := by
        simp only [oneL, oneQ, List.length_cons, List.length_nil, List.getD_cons_zero, List.getD_cons_succ]; rw [if_neg (by omega), if_pos (by omega)]
      rw [e, putB_2 (by simp only; omega) (by simp only; omega)]
      refine ⟨by unfold scP; simp only; omega, ?_, rfl⟩
      simp
      omega
    by_cases c3 : b0 / 16 = 14 ∧ b1 / 64 = 2 ∧ b2 / 64 = 2 ∧ 2048 ≤ b0 % 16 * 4096 + b1 % 64 * 64 + b2 % 64 ∧ (b0 % 16 * 4096 + b1 % 64 * 64 + b2 % 64 ≤ 55295 ∨ 57344 ≤ b0 % 16 * 4096 + b1 % 64 * 64 + b2 % 64)
    · have e : oneL [b0, b1, b2] = (b0 % 16 * 4096 + b1 % 64 * 64 + b2 % 64, 3) := by
        simp only [oneL, oneQ, List.length_cons, List.length_nil, List.getD_cons_zero, List.getD_cons_succ]; rw [if_neg (by omega), if_neg (by omega), if_pos (by omega)]
      rw [e, putB_3 (by simp only; omega) (by simp only; omega)]
      refine ⟨by unfold scP; simp only; omega, ?_, rfl⟩
      simp
      omega
    · have e : oneL [b0, b1, b2] = (0, 0) := by
        simp only [oneL, oneQ, List.length_cons, List.length_nil, List.getD_cons_zero, List.getD_cons_succ]
        rw [if_neg (by omega), if_neg (by omega), if_neg (by omega), if_neg (by omega)]
      rw [e] at h; exact absurd rfl h
  | b0 :: b1 :: b2 :: b3 :: r, _, h, g0, g1, g2, g3 =>
    simp only [List.getD_cons_zero, List.getD_cons_succ] at g0 g1 g2 g3
    by_cases c1 : b0 < 128
    · have e : oneL (b0 :: b1 :: b2 :: b3 :: r) = (b0, 1) := by simp only [oneL, oneQ, List.length_cons, List.getD_cons_zero]; rw [if_pos (by omega)]
      rw [e, putB_1 c1]
      exact ⟨by unfold scP; simp only; omega, rfl, rfl⟩
    by_cases c2 : b0 / 32 = 6 ∧ b1 / 64 = 2 ∧ 128 ≤ b0 % 32 * 64 + b1 % 64
    · have e : oneL (b0 :: b1 :: b2 :: b3 :: r) = (b0 % 32 * 64 + b1 % 64, 2) := by
        simp only [oneL, oneQ, List.length_cons, List.getD_cons_zero, List.getD_cons_succ]; rw [if_neg (by omega), if_pos (by omega)]
      rw [e, putB_2 (by simp only; omega) (by simp only; omega)]
      refine ⟨by unfold scP; simp only; omega, ?_, rfl⟩
      simp
      omega
    by_cases c3 : b0 / 16 = 14 ∧ b1 / 64 = 2 ∧ b2 / 64 = 2 ∧ 2048 ≤ b0 % 16 * 4096 + b1 % 64 * 64 + b2 % 64 ∧ (b0 % 16 * 4096 + b1 % 64 * 64 + b2 % 64 ≤ 55295 ∨ 57344 ≤ b0 % 16 * 4096 + b1 % 64 * 64 + b2 % 64)
    · have e : oneL (b0 :: b1 :: b2 :: b3 :: r) = (b0 % 16 * 4096 + b1 % 64 * 64 + b2 % 64, 3) := by
        simp only [oneL, oneQ, List.length_cons, List.getD_cons_zero, List.getD_cons_succ]; rw [if_neg (by omega), if_neg (by omega), if_pos (by omega)]
      rw [e, putB_3 (by simp only; omega) (by simp only; omega)]
      refine ⟨by unfold scP; simp only; omega, ?_, rfl⟩
      simp
      omega
    by_cases c4 : b0 / 8 = 30 ∧ b1 / 64 = 2 ∧ b2 / 64 = 2 ∧ b3 / 64 = 2 ∧ 65536 ≤ b0 % 8 * 262144 + b1 % 64 * 4096 + b2 % 64 * 64 + b3 % 64 ∧ b0 % 8 * 262144 + b1 % 64 * 4096 + b2 % 64 * 64 + b3 % 64 ≤ 1114111
    · have e : oneL (b0 :: b1 :: b2 :: b3 :: r) = (b0 % 8 * 262144 + b1 % 64 * 4096 + b2 % 64 * 64 + b3 % 64, 4) := by
        simp only [oneL, oneQ, List.length_cons, List.getD_cons_zero, List.getD_cons_succ]; rw [if_neg (by omega), if_neg (by omega), if_neg (by omega), if_pos (by omega)]
      rw [e, putB_4 (by simp only; omega)]
      refine ⟨by unfold scP; simp only; omega, ?_, rfl⟩
      simp
      omega
    · have e : oneL (b0 :: b1 :: b2 :: b3 :: r) = (0, 0) := by
        simp only [oneL, oneQ, List.length_cons, List.getD_cons_zero, List.getD_cons_succ]
        rw [if_neg (by omega), if_neg (by omega), if_neg (by omega), if_neg (by omega)]
      rw [e] at h; exact absurd rfl h

/-- Decoding: the characters and the length of the good beginning. -/
def decF : Nat → List Int → List Int × Nat
  | 0, _ => ([], 0)
  | f + 1, l => if (oneL l).2 = 0 then ([], 0) else ((oneL l).1 :: (decF f (l.drop (oneL l).2)).1, (oneL l).2 + (decF f (l.drop (oneL l).2)).2)
def decZ (l : List Int) : List Int × Nat := decF l.length l
theorem decF_end (f : Nat) (l : List Int) (h : (oneL l).2 = 0) : decF f l = ([], 0) := by
  cases f with
  | zero => rfl
  | succ f => simp [decF, h]
theorem decF_go (f : Nat) (l : List Int) (h : (oneL l).2 ≠ 0) : decF (f + 1) l = ((oneL l).1 :: (decF f (l.drop (oneL l).2)).1, (oneL l).2 + (decF f (l.drop (oneL l).2)).2) := by
  simp [decF, h]
theorem oneL_le (l : List Int) : (oneL l).2 ≤ l.length := by
  unfold oneL oneQ
  repeat' split
  all_goals simp only
  all_goals omega
theorem oneL_4 (l : List Int) : (oneL l).2 ≤ 4 := by
  unfold oneL oneQ
  repeat' split
  all_goals simp
theorem take_of (l p r : List Int) (k : Nat) (h : l = p ++ r) (hk : k = p.length) : l.take k = p := by subst h hk; simp
/-- What decoding answers: scalar values, written as the good beginning. -/
theorem decF_flat : ∀ (f : Nat) (l : List Int), Byt l → ((decF f l).1.flatMap putB = l.take (decF f l).2 ∧ (decF f l).2 ≤ l.length ∧ ((decF f l).1).all scB = true ∧ ((decF f l).1.flatMap putB).length = (decF f l).2)
  | 0, l, _ => by simp [decF]
  | f + 1, l, hb => by
    by_cases h : (oneL l).2 = 0
    · rw [decF_end _ _ h]; simp
    · rw [decF_go f l h]
      obtain ⟨h1, h2, h3⟩ := one_back l hb h
      obtain ⟨i1, i2, i3, i4⟩ := decF_flat f (l.drop (oneL l).2) (byt_drop hb _)
      have hle := oneL_le l
      simp only [List.flatMap_cons]
      refine ⟨?_, ?_, ?_, ?_⟩
      · rw [i1, List.take_add]
        rw [take_of l _ _ _ h2 h3]
      · simp at i2; omega
      · simp [i3, (scB_iff _).2 h1]
      · rw [List.length_append, i4, ← h3]
/-- ... and behind it no character stands. -/
theorem decF_stop : ∀ (f : Nat) (l : List Int), l.length ≤ f → (oneL (l.drop (decF f l).2)).2 = 0
  | 0, l, h => by
    have : l = [] := List.eq_nil_of_length_eq_zero (by omega)
    subst this; rfl
  | f + 1, l, h => by
    by_cases h0 : (oneL l).2 = 0
    · rw [decF_end _ _ h0]; simpa using h0
    · rw [decF_go f l h0]
      have := decF_stop f (l.drop (oneL l).2) (by simp; omega)
      rw [List.drop_drop] at this
      exact this
end Go.Proofs.Ytmlgbglaifnhgaa.mem
namespace Go.Proofs.Ytmlgbglaifnhgaa.mem
open Go.ChangeShapes Go.WideShapes Go.ChangeAt Go.RowKit
open ints (hide unhide)
set_option linter.unusedVariables false

def bytesZ (s : ByteArray) : List Int := s.data.toList.map fun b => (b.toNat : Int)
theorem bytesZ_len (s : ByteArray) : (bytesZ s).length = s.size := by unfold bytesZ; rw [List.length_map, Array.length_toList]; rfl
theorem bytesZ_byt (s : ByteArray) : Byt (bytesZ s) := by
  intro z hz
  obtain ⟨b, _, rfl⟩ := List.mem_map.1 hz
  have := b.toNat_lt
  omega
theorem bytesZ_str (zs : List Int) (h : Byt zs) : bytesZ (strOfNums zs) = zs := by
  unfold bytesZ
  rw [strOfNums_data, List.map_map]
  conv => rhs; rw [← List.map_id zs]
  apply List.map_congr_left
  intro z hz
  have := h z hz
  simp
  omega
theorem bytesZ_get (s : ByteArray) (i : Nat) : (bytesZ s).getD i 0 = ((s.get! i).toNat : Int) := by
  unfold bytesZ
  have e : s.get! i = s.data[i]! := rfl
  rw [e]
  by_cases h : i < s.data.size
  · rw [getElem!_pos s.data i h]
    simp [List.getD, Array.getElem?_eq_getElem h]
  · rw [getElem!_neg s.data i h]
    simp [List.getD, Array.getElem?_eq_none (Nat.le_of_not_lt h)]
    rfl
theorem drop_getD (l : List Int) (p k : Nat) : (l.drop p).getD k 0 = l.getD (p + k) 0 := by simp [List.getD]
theorem oneL_at (s : ByteArray) (p : Nat) : oneL ((bytesZ s).drop p) = oneQ (s.size - p) ((s.get! p).toNat : Int) ((s.get! (p + 1)).toNat : Int) ((s.get! (p + 2)).toNat : Int) ((s.get! (p + 3)).toNat : Int) := by
  unfold oneL
  rw [drop_getD, drop_getD, drop_getD, drop_getD, bytesZ_get, bytesZ_get, bytesZ_get, bytesZ_get]
  simp [bytesZ_len]
theorem oneQ_bad {n : Nat} {b0 : Int} (b1 b2 b3 : Int) (h0 : 128 ≤ b0) (h : b0 < 192 ∨ 248 ≤ b0) : oneQ n b0 b1 b2 b3 = (0, 0) := by
  unfold oneQ
  rw [if_neg (by omega), if_neg (by omega), if_neg (by omega), if_neg (by omega)]
theorem oneQ_2 {n : Nat} {b0 : Int} (b1 b2 b3 : Int) (h0 : 192 ≤ b0) (h1 : b0 < 224) : oneQ n b0 b1 b2 b3 = if 1 < n ∧ b1 / 64 = 2 ∧ 128 ≤ b0 % 32 * 64 + b1 % 64 then (b0 % 32 * 64 + b1 % 64, 2) else (0, 0) := by
  unfold oneQ
  have e1 : b0 / 32 = 6 := by omega
  have e2 : ¬ b0 / 16 = 14 := by omega
  have e3 : ¬ b0 / 8 = 30 := by omega
  rw [if_neg (by omega)]
  simp only [e1, e2, e3, true_and, false_and, and_false, if_false]
theorem oneQ_3 {n : Nat} {b0 : Int} (b1 b2 b3 : Int) (h0 : 224 ≤ b0) (h1 : b0 < 240) : oneQ n b0 b1 b2 b3 = if 2 < n ∧ b1 / 64 = 2 ∧ b2 / 64 = 2 ∧ 2048 ≤ b0 % 16 * 4096 + b1 % 64 * 64 + b2 % 64 ∧ (b0 % 16 * 4096 + b1 % 64 * 64 + b2 % 64 ≤ 55295 ∨ 57344 ≤ b0 % 16 * 4096 + b1 % 64 * 64 + b2 % 64) then (b0 % 16 * 4096 + b1 % 64 * 64 + b2 % 64, 3) else (0, 0) := by
  unfold oneQ
  have e1 : ¬ b0 / 32 = 6 := by omega
  have e2 : b0 / 16 = 14 := by omega
  have e3 : ¬ b0 / 8 = 30 := by omega
  rw [if_neg (by omega)]
  simp only [e1, e2, e3, true_and, false_and, and_false, if_false]
theorem oneQ_4 {n : Nat} {b0 : Int} (b1 b2 b3 : Int) (h0 : 240 ≤ b0) (h1 : b0 < 248) : oneQ n b0 b1 b2 b3 = if 3 < n ∧ b1 / 64 = 2 ∧ b2 / 64 = 2 ∧ b3 / 64 = 2 ∧ 65536 ≤ b0 % 8 * 262144 + b1 % 64 * 4096 + b2 % 64 * 64 + b3 % 64 ∧ b0 % 8 * 262144 + b1 % 64 * 4096 + b2 % 64 * 64 + b3 % 64 ≤ 1114111 then (b0 % 8 * 262144 + b1 % 64 * 4096 + b2 % 64 * 64 + b3 % 64, 4) else (0, 0) := by
  unfold oneQ
  have e1 : ¬ b0 / 32 = 6 := by omega
  have e2 : ¬ b0 / 16 = 14 := by omega
  have e3 : b0 / 8 = 30 := by omega
  rw [if_neg (by omega)]
  simp only [e1, e2, e3, true_and, false_and, and_false, if_false]
/-- The model's own decoding, of four bytes and how many there are. -/
def decQ (n b0 b1 b2 b3 : Nat) : Nat × Nat :=
  if b0 < 128 then (b0, 1)
  else if (b0 / 32 == 6 && (decide (1 < n) && b1 / 64 == 2)) = true then (if b0 % 32 * 64 + b1 % 64 ≥ 128 then (b0 % 32 * 64 + b1 % 64, 2) else (65533, 1))
  else if (b0 / 16 == 14 && (decide (1 < n) && b1 / 64 == 2) && (decide (2 < n) && b2 / 64 == 2)) = true then
    (if (decide (b0 % 16 * 4096 + b1 % 64 * 64 + b2 % 64 ≥ 2048) && Utf8.valid ((b0 % 16 * 4096 + b1 % 64 * 64 + b2 % 64 : Nat) : Int)) = true then (b0 % 16 * 4096 + b1 % 64 * 64 + b2 % 64, 3) else (65533, 1))
  else if (b0 / 8 == 30 && (decide (1 < n) && b1 / 64 == 2) && (decide (2 < n) && b2 / 64 == 2) && (decide (3 < n) && b3 / 64 == 2)) = true then
    (if (decide (b0 % 8 * 262144 + b1 % 64 * 4096 + b2 % 64 * 64 + b3 % 64 ≥ 65536) && Utf8.valid ((b0 % 8 * 262144 + b1 % 64 * 4096 + b2 % 64 * 64 + b3 % 64 : Nat) : Int)) = true then (b0 % 8 * 262144 + b1 % 64 * 4096 + b2 % 64 * 64 + b3 % 64, 4) else (65533, 1))
  else (65533, 1)
theorem decide_lt_sub (p k n : Nat) : decide (p + k < n) = decide (k < n - p) := by
  rw [decide_eq_decide]; omega
theorem decode_Q (s : ByteArray) (p : Nat) : Utf8.decode s p = decQ (s.size - p) (s.get! p).toNat (s.get! (p + 1)).toNat (s.get! (p + 2)).toNat (s.get! (p + 3)).toNat := by
  unfold Utf8.decode decQ
  simp only [Nat.add_zero, decide_lt_sub, Utf8.runeError]
theorem valid_iff (c : Nat) : Utf8.valid (c : Int) = true ↔ (c ≤ 55295 ∨ 57344 ≤ c ∧ c ≤ 1114111) := by
  simp [Utf8.valid]; omega
theorem decQ_bad {n b0 : Nat} (b1 b2 b3 : Nat) (h0 : 128 ≤ b0) (h : b0 < 192 ∨ 248 ≤ b0) : decQ n b0 b1 b2 b3 = (65533, 1) := by
  unfold decQ
  have e1 : (b0 / 32 == 6) = false := by simp; omega
  have e2 : (b0 / 16 == 14) = false := by simp; omega
  have e3 : (b0 / 8 == 30) = false := by simp; omega
  rw [if_neg (by omega)]
  simp [e1, e2, e3]
theorem decQ_2 {n b0 : Nat} (b1 b2 b3 : Nat) (h0 : 192 ≤ b0) (h1 : b0 < 224) : decQ n b0 b1 b2 b3 = if (1 < n ∧ b1 / 64 = 2) ∧ 128 ≤ b0 % 32 * 64 + b1 % 64 then (b0 % 32 * 64 + b1 % 64, 2) else (65533, 1) := by
  unfold decQ
  have e1 : (b0 / 32 == 6) = true := by simp; omega
  have e2 : (b0 / 16 == 14) = false := by simp; omega
  have e3 : (b0 / 8 == 30) = false := by simp; omega
  rw [if_neg (by omega)]
  simp only [e1, e2, e3, Bool.true_and, Bool.false_and, Bool.and_eq_true, decide_eq_true_eq, beq_iff_eq, Bool.false_eq_true, if_false, ge_iff_le]
  by_cases a : 1 < n ∧ b1 / 64 = 2
  · by_cases b : 128 ≤ b0 % 32 * 64 + b1 % 64
    · rw [if_pos a, if_pos b, if_pos ⟨a, b⟩]
    · rw [if_pos a, if_neg b, if_neg (fun h => b h.2)]
  · rw [if_neg a, if_neg (fun h => a h.1)]
theorem decQ_3 {n b0 : Nat} (b1 b2 b3 : Nat) (h0 : 224 ≤ b0) (h1 : b0 < 240) : decQ n b0 b1 b2 b3 = if ((1 < n ∧ b1 / 64 = 2) ∧ 2 < n ∧ b2 / 64 = 2) ∧ 2048 ≤ b0 % 16 * 4096 + b1 % 64 * 64 + b2 % 64 ∧ (b0 % 16 * 4096 + b1 % 64 * 64 + b2 % 64 ≤ 55295 ∨ 57344 ≤ b0 % 16 * 4096 + b1 % 64 * 64 + b2 % 64 ∧ b0 % 16 * 4096 + b1 % 64 * 64 + b2 % 64 ≤ 1114111) then (b0 % 16 * 4096 + b1 % 64 * 64 + b2 % 64, 3) else (65533, 1) := by
  unfold decQ
  have e1 : (b0 / 32 == 6) = false := by simp; omega
  have e2 : (b0 / 16 == 14) = true := by simp; omega
  have e3 : (b0 / 8 == 30) = false := by simp; omega
  rw [if_neg (by omega)]
  simp only [e1, e2, e3, Bool.true_and, Bool.false_and, Bool.and_eq_true, decide_eq_true_eq, beq_iff_eq, Bool.false_eq_true, if_false, ge_iff_le, valid_iff]
  generalize b0 % 16 * 4096 + b1 % 64 * 64 + b2 % 64 = C
  by_cases a : (1 < n ∧ b1 / 64 = 2) ∧ 2 < n ∧ b2 / 64 = 2
  · by_cases b : 2048 ≤ C ∧ (C ≤ 55295 ∨ 57344 ≤ C ∧ C ≤ 1114111)
    · rw [if_pos a, if_pos b, if_pos ⟨a, b⟩]
    · rw [if_pos a, if_neg b, if_neg (fun h => b h.2)]
  · rw [if_neg a, if_neg (fun h => a h.1)]
theorem decQ_4 {n b0 : Nat} (b1 b2 b3 : Nat) (h0 : 240 ≤ b0) (h1 : b0 < 248) : decQ n b0 b1 b2 b3 = if (((1 < n ∧ b1 / 64 = 2) ∧ 2 < n ∧ b2 / 64 = 2) ∧ 3 < n ∧ b3 / 64 = 2) ∧ 65536 ≤ b0 % 8 * 262144 + b1 % 64 * 4096 + b2 % 64 * 64 + b3 % 64 ∧ (b0 % 8 * 262144 + b1 % 64 * 4096 + b2 % 64 * 64 + b3 % 64 ≤ 55295 ∨ 57344 ≤ b0 % 8 * 262144 + b1 % 64 * 4096 + b2 % 64 * 64 + b3 % 64 ∧ b0 % 8 * 262144 + b1 % 64 * 4096 + b2 % 64 * 64 + b3 % 64 ≤ 1114111) then (b0 % 8 * 262144 + b1 % 64 * 4096 + b2 % 64 * 64 + b3 % 64, 4) else (65533, 1) := by
  unfold decQ
  have e1 : (b0 / 32 == 6) = false := by simp; omega
  have e2 : (b0 / 16 == 14) = false := by simp; omega
  have e3 : (b0 / 8 == 30) = true := by simp; omega
  rw [if_neg (by omega)]
  simp only [e1, e2, e3, Bool.true_and, Bool.false_and, Bool.and_eq_true, decide_eq_true_eq, beq_iff_eq, Bool.false_eq_true, if_false, ge_iff_le, valid_iff]
  generalize b0 % 8 * 262144 + b1 % 64 * 4096 + b2 % 64 * 64 + b3 % 64 = C
  by_cases a : ((1 < n ∧ b1 / 64 = 2) ∧ 2 < n ∧ b2 / 64 = 2) ∧ 3 < n ∧ b3 / 64 = 2
  · by_cases b : 65536 ≤ C ∧ (C ≤ 55295 ∨ 57344 ≤ C ∧ C ≤ 1114111)
    · rw [if_pos a, if_pos b, if_pos ⟨a, b⟩]
    · rw [if_pos a, if_neg b, if_neg (fun h => b h.2)]
  · rw [if_neg a, if_neg (fun h => a h.1)]
theorem decQ_one (n b0 b1 b2 b3 : Nat) (hn : 0 < n) (l0 : b0 < 256) : decQ n b0 b1 b2 b3 = if (oneQ n b0 b1 b2 b3).2 = 0 then (65533, 1) else ((oneQ n b0 b1 b2 b3).1.toNat, (oneQ n b0 b1 b2 b3).2) := by
  by_cases h1 : b0 < 128
  · have e : oneQ n b0 b1 b2 b3 = ((b0 : Int), 1) := by unfold oneQ; rw [if_pos (by omega)]
    rw [e]
    unfold decQ
    rw [if_pos h1]
    simp
  by_cases h2 : b0 < 192 ∨ 248 ≤ b0
  · rw [decQ_bad b1 b2 b3 (by omega) h2, oneQ_bad (b0 := (b0 : Int)) _ _ _ (by omega) (by omega)]
    simp
  by_cases h3 : b0 < 224
  · rw [decQ_2 b1 b2 b3 (by omega) h3]
    by_cases c : (1 < n ∧ b1 / 64 = 2) ∧ 128 ≤ b0 % 32 * 64 + b1 % 64
    · have e : oneQ n b0 b1 b2 b3 = ((b0 : Int) % 32 * 64 + (b1 : Int) % 64, 2) := by rw [oneQ_2 (b0 := (b0 : Int)) _ _ _ (by omega) (by omega), if_pos (by omega)]
      rw [if_pos c, e]
      simp
      omega
    · have e : oneQ n b0 b1 b2 b3 = (0, 0) := by rw [oneQ_2 (b0 := (b0 : Int)) _ _ _ (by omega) (by omega), if_neg (by omega)]
      rw [if_neg c, e]
      simp
  by_cases h4 : b0 < 240
  · rw [decQ_3 b1 b2 b3 (by omega) h4]
    by_cases c : ((1 < n ∧ b1 / 64 = 2) ∧ 2 < n ∧ b2 / 64 = 2) ∧ 2048 ≤ b0 % 16 * 4096 + b1 % 64 * 64 + b2 % 64 ∧ (b0 % 16 * 4096 + b1 % 64 * 64 + b2 % 64 ≤ 55295 ∨ 57344 ≤ b0 % 16 * 4096 + b1 % 64 * 64 + b2 % 64 ∧ b0 % 16 * 4096 + b1 % 64 * 64 + b2 % 64 ≤ 1114111)
    · have e : oneQ n b0 b1 b2 b3 = ((b0 : Int) % 16 * 4096 + (b1 : Int) % 64 * 64 + (b2 : Int) % 64, 3) := by rw [oneQ_3 (b0 := (b0 : Int)) _ _ _ (by omega) (by omega), if_pos (by omega)]
      rw [if_pos c, e]
      simp
      omega
    · have e : oneQ n b0 b1 b2 b3 = (0, 0) := by rw [oneQ_3 (b0 := (b0 : Int)) _ _ _ (by omega) (by omega), if_neg (by omega)]
      rw [if_neg c, e]
      simp
  · rw [decQ_4 b1 b2 b3 (by omega) (by omega)]
    by_cases c : (((1 < n ∧ b1 / 64 = 2) ∧ 2 < n ∧ b2 / 64 = 2) ∧ 3 < n ∧ b3 / 64 = 2) ∧ 65536 ≤ b0 % 8 * 262144 + b1 % 64 * 4096 + b2 % 64 * 64 + b3 % 64 ∧ (b0 % 8 * 262144 + b1 % 64 * 4096 + b2 % 64 * 64 + b3 % 64 ≤ 55295 ∨ 57344 ≤ b0 % 8 * 262144 + b1 % 64 * 4096 + b2 % 64 * 64 + b3 % 64 ∧ b0 % 8 * 262144 + b1 % 64 * 4096 + b2 % 64 * 64 + b3 % 64 ≤ 1114111)
    · have e : oneQ n b0 b1 b2 b3 = ((b0 : Int) % 8 * 262144 + (b1 : Int) % 64 * 4096 + (b2 : Int) % 64 * 64 + (b3 : Int) % 64, 4) := by rw [oneQ_4 (b0 := (b0 : Int)) _ _ _ (by omega) (by omega), if_pos (by omega)]
      rw [if_pos c, e]
      simp
      omega
    · have e : oneQ n b0 b1 b2 b3 = (0, 0) := by rw [oneQ_4 (b0 := (b0 : Int)) _ _ _ (by omega) (by omega), if_neg (by omega)]
      rw [if_neg c, e]
      simp
theorem decode_one (s : ByteArray) (p : Nat) (h : p < s.size) :
    Utf8.decode s p = if (oneL ((bytesZ s).drop p)).2 = 0 then (65533, 1) else ((oneL ((bytesZ s).drop p)).1.toNat, (oneL ((bytesZ s).drop p)).2) := by
  rw [oneL_at, decode_Q]
  exact decQ_one _ _ _ _ _ (by omega) (s.get! p).toNat_lt
end Go.Proofs.Ytmlgbglaifnhgaa.mem
