import Derived.Test.YthpcpminikmcbaaTwg4
import Derived.Test.YthpcpminikmcbaaTwg2
import Derived.Deep.AppendLies
namespace Go.Proofs.Ythpcpminikmcbaa.vl
open Go.ChangeShapes Go.WideShapes Go.ChangeAt Go.RowKit
open stp (St Pth St3)
set_option linter.unusedVariables false
set_option linter.unusedSimpArgs false
/-- the child number i is another value -/
def setS : Vl → St → Nat → Vl → Vl
  | .mk kd b n f tx ty its fls, s, i, x => if s.it = true then .mk kd b n f tx ty (Vls.of (its.list.set i x)) fls else .mk kd b n f tx ty its (Fls.of (fls.list.modify i fun q => (q.1, x)))
def setP : Vl → List St → Vl → Option Vl
  | v, [], x => some x
  | v, s :: r, x => match chI v s, getS v s with
    | some i, some u => (setP u r x).map (setS v s i)
    | _, _ => none
theorem setP_snoc : ∀ {l : List St} {v u : Vl} {s : St} {i : Nat} {c : Vl} (x : Vl), getP v l = some u → chI u s = some i → getS u s = some c → setP v (l ++ [s]) x = setP v l (setS u s i x)
  | [], v, u, s, i, c, x, h, hc, hs => by
    simp only [getP, Option.some.injEq] at h
    subst h
    simp only [List.nil_append, setP, hc, hs, Option.map_some]
  | t :: l, v, u, s, i, c, x, h, hc, hs => by
    simp only [getP] at h
    cases ht : getS v t with
    | none => rw [ht] at h; cases h
    | some y =>
      rw [ht] at h
      simp only [List.cons_append, setP, ht]
      cases hct : chI v t with
      | none => rfl
      | some j => simp only; rw [setP_snoc x h hc hs]
theorem setP_none : ∀ {l : List St} {v : Vl} (x : Vl), getP v l = none → setP v l x = none
  | [], v, x, h => by simp [getP] at h
  | t :: l, v, x, h => by
    simp only [getP] at h
    simp only [setP]
    cases ht : getS v t with
    | none => cases chI v t <;> rfl
    | some y =>
      rw [ht] at h
      cases hct : chI v t with
      | none => rfl
      | some j => simp only; rw [setP_none x h]; rfl
theorem OwsIn.keepR {w w' : World} : ∀ (l : Vls) (p off n : Nat) (G : List Nat), Agree G w w' → (∀ o, off ≤ o → o < off + n * 8 → w'.cell? ⟨p, o, none⟩ = w.cell? ⟨p, o, none⟩) → OwsIn w l p off n G → OwsIn w' l p off n G
  | .nil, p, off, n, G, ha, hc, h => by unfold OwsIn at h ⊢; exact h
  | .cons v r, p, off, n, G, ha, hc, h => by
    unfold OwsIn at h ⊢
    obtain ⟨m, cs, G1, G2, rfl, h1, h2, h3, rfl⟩ := h
    have h8 := (OwC.read v cs G1 h2).cells
    exact ⟨m, cs, G1, G2, rfl, fun i u hu => (hc (off + i) (by omega) (by have := (List.getElem?_eq_some_iff.1 hu).1; omega)).trans (h1 i u hu), OwC.agree v cs G1 ha.left h2, OwsIn.keepR r p _ m G2 ha.right (fun o h0 ho => hc o (by omega) (by omega)) h3, rfl⟩
theorem OwfIn.keepR {w w' : World} : ∀ (l : Fls) (p off n : Nat) (G : List Nat), Agree G w w' → (∀ o, off ≤ o → o < off + n * 9 → w'.cell? ⟨p, o, none⟩ = w.cell? ⟨p, o, none⟩) → OwfIn w l p off n G → OwfIn w' l p off n G
  | .nil, p, off, n, G, ha, hc, h => by unfold OwfIn at h ⊢; exact h
  | .cons nm v r, p, off, n, G, ha, hc, h => by
    unfold OwfIn at h ⊢
    obtain ⟨m, cs, G1, G2, rfl, h0, hz, h1, h2, h3, rfl⟩ := h
    have h8 := (OwC.read v cs G1 h2).cells
    exact ⟨m, cs, G1, G2, rfl, (hc off (by omega) (by omega)).trans h0, hz, fun i u hu => (hc (off + 1 + i) (by omega) (by have := (List.getElem?_eq_some_iff.1 hu).1; omega)).trans (h1 i u hu), OwC.agree v cs G1 ha.left h2, OwfIn.keepR r p _ m G2 ha.right (fun o h0 ho => hc o (by omega) (by omega)) h3, rfl⟩
/-- one item of a list that is owned, and the list around it -/
theorem OwsIn.hole {w : World} : ∀ (l : Vls) (p off n : Nat) (G : List Nat), OwsIn w l p off n G → G.Nodup → ∀ i, i < n → ∃ u us Gi Gr, l.list[i]? = some u ∧ Row8 w p (off + i * 8) us ∧ OwC w u us Gi ∧ Gi.Nodup ∧ (∀ c ∈ Gi, c ∈ G ∧ c ∉ Gr) ∧ (∀ c ∈ Gr, c ∈ G) ∧
    ∀ w' x ds, Agree Gr w w' → (∀ j, (j < off + i * 8 ∨ off + i * 8 + 8 ≤ j) → w'.cell? ⟨p, j, none⟩ = w.cell? ⟨p, j, none⟩) → Row8 w' p (off + i * 8) ds → VlC w' x ds → VlsAt w' (Vls.of (l.list.set i x)) (some ⟨p, off, none⟩) n
  | .nil, p, off, n, G, h, hn, i, hi => by unfold OwsIn at h; omega
  | .cons v r, p, off, n, G, h, hn, i, hi => by
    unfold OwsIn at h
    obtain ⟨m, cs, G1, G2, rfl, h1, h2, h3, rfl⟩ := h
    rw [List.nodup_append] at hn
    obtain ⟨n1, n2, n3⟩ := hn
    match i with
    | 0 =>
      refine ⟨v, cs, G1, G2, rfl, by simpa using h1, h2, n1, fun c hc => ⟨List.mem_append_left _ hc, fun hc' => n3 c hc c hc' rfl⟩, fun c hc => List.mem_append_right _ hc, ?_⟩
      intro w' x ds ha hc hr hx
      simp only [Vls.list, List.set_cons_zero, Vls.of]
      unfold VlsAt
      refine ⟨p, off, m, ds, rfl, rfl, by simpa using hr, hx, ?_⟩
      rw [Vls.of_list]
      exact OwsIn.read _ _ _ _ _ (OwsIn.keepR r p (off + 8) m G2 ha (fun o h0 _ => hc o (.inr (by omega))) h3)
    | i + 1 =>
      obtain ⟨u, us, Gi, Gr, g1, g2, g3, g4, g5, g6, g7⟩ := OwsIn.hole r p (off + 8) m G2 h3 n2 i (by omega)
      rw [show off + 8 + i * 8 = off + (i + 1) * 8 by omega] at g2 g7
      refine ⟨u, us, Gi, G1 ++ Gr, by simpa [Vls.list] using g1, g2, g3, g4, fun c hc => ⟨List.mem_append_right _ (g5 c hc).1, fun hc' => ?_⟩, fun c hc => ?_, ?_⟩
      · rcases List.mem_append.1 hc' with h | h
        · exact n3 c h c (g5 c hc).1 rfl
        · exact (g5 c hc).2 h
      · rcases List.mem_append.1 hc with h | h
        · exact List.mem_append_left _ h
        · exact List.mem_append_right _ (g6 c h)
      · intro w' x ds ha hc hr hx
        simp only [Vls.list, List.set_cons_succ, Vls.of]
        unfold VlsAt
        have h8 := (OwC.read v cs G1 h2).cells
        refine ⟨p, off, m, cs, rfl, rfl, fun j y hy => (hc (off + j) (.inl (by have := (List.getElem?_eq_some_iff.1 hy).1; omega))).trans (h1 j y hy), OwC.read _ _ _ (OwC.agree v cs G1 ha.left h2), g7 w' x ds ha.right hc hr hx⟩
theorem OwfIn.hole {w : World} : ∀ (l : Fls) (p off n : Nat) (G : List Nat), OwfIn w l p off n G → G.Nodup → ∀ i, i < n → ∃ nm u us Gi Gr, l.list[i]? = some (nm, u) ∧ Row8 w p (off + i * 9 + 1) us ∧ OwC w u us Gi ∧ Gi.Nodup ∧ (∀ c ∈ Gi, c ∈ G ∧ c ∉ Gr) ∧ (∀ c ∈ Gr, c ∈ G) ∧
    ∀ w' x ds, Agree Gr w w' → (∀ j, (j < off + i * 9 + 1 ∨ off + i * 9 + 1 + 8 ≤ j) → w'.cell? ⟨p, j, none⟩ = w.cell? ⟨p, j, none⟩) → Row8 w' p (off + i * 9 + 1) ds → VlC w' x ds → FlsAt w' (Fls.of (l.list.modify i fun q => (q.1, x))) (some ⟨p, off, none⟩) n
  | .nil, p, off, n, G, h, hn, i, hi => by unfold OwfIn at h; omega
  | .cons nm v r, p, off, n, G, h, hn, i, hi => by
    unfold OwfIn at h
    obtain ⟨m, cs, G1, G2, rfl, h0, hz, h1, h2, h3, rfl⟩ := h
    rw [List.nodup_append] at hn
    obtain ⟨n1, n2, n3⟩ := hn
    match i with
    | 0 =>
      refine ⟨nm, v, cs, G1, G2, rfl, by simpa using h1, h2, n1, fun c hc => ⟨List.mem_append_left _ hc, fun hc' => n3 c hc c hc' rfl⟩, fun c hc => List.mem_append_right _ hc, ?_⟩
      intro w' x ds ha hc hr hx
      simp only [Fls.list, List.modify_zero_cons, Fls.of]
      unfold FlsAt
      refine ⟨p, off, m, ds, rfl, rfl, (hc off (.inl (by omega))).trans h0, hz, by simpa using hr, hx, ?_⟩
      rw [Fls.of_list]
      exact OwfIn.read _ _ _ _ _ (OwfIn.keepR r p (off + 9) m G2 ha (fun o h0 _ => hc o (.inr (by omega))) h3)
    | i + 1 =>
      obtain ⟨nm', u, us, Gi, Gr, g1, g2, g3, g4, g5, g6, g7⟩ := OwfIn.hole r p (off + 9) m G2 h3 n2 i (by omega)
      rw [show off + 9 + i * 9 + 1 = off + (i + 1) * 9 + 1 by omega] at g2 g7
      refine ⟨nm', u, us, Gi, G1 ++ Gr, by simpa [Fls.list] using g1, g2, g3, g4, fun c hc => ⟨List.mem_append_right _ (g5 c hc).1, fun hc' => ?_⟩, fun c hc => ?_, ?_⟩
      · rcases List.mem_append.1 hc' with h | h
        · exact n3 c h c (g5 c hc).1 rfl
        · exact (g5 c hc).2 h
      · rcases List.mem_append.1 hc with h | h
        · exact List.mem_append_left _ h
        · exact List.mem_append_right _ (g6 c h)
      · intro w' x ds ha hc hr hx
        simp only [Fls.list, List.modify_succ_cons, Fls.of]
        unfold FlsAt
        have h8 := (OwC.read v cs G1 h2).cells
        refine ⟨p, off, m, cs, rfl, rfl, (hc off (.inl (by omega))).trans h0, hz, fun j y hy => (hc (off + 1 + j) (.inl (by have := (List.getElem?_eq_some_iff.1 hy).1; omega))).trans (h1 j y hy), OwC.read _ _ _ (OwC.agree v cs G1 ha.left h2), g7 w' x ds ha.right hc hr hx⟩
end Go.Proofs.Ythpcpminikmcbaa.vl
namespace Go.Proofs.Ythpcpminikmcbaa.vl
open Go.ChangeShapes Go.WideShapes Go.ChangeAt Go.RowKit
open stp (St Pth St3)
set_option linter.unusedVariables false
set_option linter.unusedSimpArgs false
/-- two worlds that agree on these blocks but for eight cells -/
def AgreeBut (F : List Nat) (b o : Nat) (w w' : World) : Prop := ∀ c ∈ F, ∀ j, (c ≠ b ∨ j < o ∨ o + 8 ≤ j) → w'.cell? ⟨c, j, none⟩ = w.cell? ⟨c, j, none⟩
theorem AgreeBut.agree {F G : List Nat} {b o : Nat} {w w' : World} (h : AgreeBut F b o w w') (hs : ∀ c ∈ G, c ∈ F) (hb : b ∉ G) : Agree G w w' := fun c hc j => h c (hs c hc) j (.inl fun e => hb (e ▸ hc))
/-- one child of a value that is owned, and the value around it -/
theorem OwC.hole {w : World} {v : Vl} {cs : List Value} {F : List Nat} {s : St} {i b o : Nat} (h : OwC w v cs F) (hn : F.Nodup) (hi : chI v s = some i) (hl : Loc cs s i b o) :
    ∃ u us Fu Gr, getS v s = some u ∧ Row8 w b o us ∧ OwC w u us Fu ∧ Fu.Nodup ∧ (∀ c ∈ Fu, c ∈ F ∧ c ∉ Gr) ∧ (∀ c ∈ Gr, c ∈ F) ∧ b ∈ Gr ∧ ∀ w' x ds, AgreeBut Gr b o w w' → Row8 w' b o ds → VlC w' x ds → VlC w' (setS v s i x) cs := by
  obtain ⟨kd, bb, ni, f, tx, ty, its, fls⟩ := v
  have hg : getS (.mk kd bb ni f tx ty its fls) s = if s.it = true then its.list[i]? else (fls.list[i]?).map (·.2) := by simp only [getS, hi]
  have hset : ∀ x, setS (.mk kd bb ni f tx ty its fls) s i x = if s.it = true then .mk kd bb ni f tx ty (Vls.of (its.list.set i x)) fls else .mk kd bb ni f tx ty its (Fls.of (fls.list.modify i fun q => (q.1, x))) := fun x => rfl
  rw [chI_mk] at hi
  unfold OwC at h
  obtain ⟨ai, nI, ci, af, nf, cf, Fi, Ff, rfl, hI, hF, hni, hnf, hai, haf, hk1, hk2, hk3, hk4, hci, hcf, rfl⟩ := h
  rw [List.nodup_append] at hn
  obtain ⟨n1, n2, n3⟩ := hn
  obtain ⟨p, off, n, c, hl⟩ := hl
  by_cases ht : s.it = true
  · rw [if_pos ht] at hi hl hg
    obtain ⟨h6, rfl, rfl⟩ := hl
    simp at h6
    obtain ⟨rfl, rfl, rfl⟩ := h6
    by_cases hc : kd = 5 ∧ 0 ≤ s.ix ∧ s.ix < its.list.length
    · rw [if_pos hc] at hi
      obtain rfl := Option.some.inj hi
      rcases hI with ⟨h, _⟩ | ⟨p', G, e, rfl, hI⟩
      · cases h
      · simp only [Option.some.injEq, Addr.mk.injEq, and_true] at e
        obtain ⟨rfl, rfl⟩ := e
        have hlen := VlsAt.len its _ _ (OwsIn.read _ _ _ _ _ hI)
        rw [List.nodup_cons] at n1
        obtain ⟨u, us, Gi, Gr, g1, g2, g3, g4, g5, g6, g7⟩ := OwsIn.hole its b 0 nI G hI n1.2 s.ix.toNat (by omega)
        refine ⟨u, us, Gi, b :: (Gr ++ Ff), hg.trans g1, g2, g3, g4, fun x hx => ⟨?_, ?_⟩, fun x hx => ?_, List.mem_cons_self .., ?_⟩
        · exact List.mem_append_left _ (List.mem_cons_of_mem _ (g5 x hx).1)
        · intro hx'
          rcases List.mem_cons.1 hx' with rfl | hx'
          · exact n1.1 (g5 _ hx).1
          · rcases List.mem_append.1 hx' with hx' | hx'
            · exact (g5 x hx).2 hx'
            · exact n3 x (List.mem_cons_of_mem _ (g5 x hx).1) x hx' rfl
        · rcases List.mem_cons.1 hx with rfl | hx
          · exact List.mem_append_left _ (List.mem_cons_self ..)
          · rcases List.mem_append.1 hx with hx | hx
            · exact List.mem_append_left _ (List.mem_cons_of_mem _ (g6 x hx))
            · exact List.mem_append_right _ hx
        · intro w' x ds ha hr hx
          have a1 : Agree Gr w w' := ha.agree (fun c hc => List.mem_cons_of_mem _ (List.mem_append_left _ hc)) (fun h => n1.1 (g6 _ h))
          have a2 : Agree Ff w w' := ha.agree (fun c hc => List.mem_cons_of_mem _ (List.mem_append_right _ hc)) (fun h => n3 b (List.mem_cons_self ..) b h rfl)
          have hV := g7 w' x ds a1 (fun j hj => ha b (List.mem_cons_self ..) j (.inr hj)) hr hx
          rw [hset, if_pos ht]
          unfold VlC
          refine ⟨_, nI, ci, af, nf, cf, rfl, hV, ?_, hni, hnf, hai, haf, hk1, hk2, hk3, hk4, hci, hcf⟩
          rcases hF with ⟨rfl, rfl, rfl, _⟩ | ⟨p', G', rfl, rfl, hF⟩
          · unfold FlsAt; rfl
          · exact OwfIn.read _ _ _ _ _ (OwfIn.agree fls p' 0 nf G' a2 hF)
    · rw [if_neg hc] at hi
      cases hi
  · rw [if_neg ht] at hi hl hg
    obtain ⟨h7, rfl, rfl⟩ := hl
    simp at h7
    obtain ⟨rfl, rfl, rfl⟩ := h7
    by_cases hc : kd = 6
    · rw [if_pos hc] at hi
      rcases hF with ⟨h, _⟩ | ⟨p', G, e, rfl, hF⟩
      · cases h
      · simp only [Option.some.injEq, Addr.mk.injEq, and_true] at e
        obtain ⟨rfl, rfl⟩ := e
        have hlen := FlsAt.len fls _ _ (OwfIn.read _ _ _ _ _ hF)
        rw [List.nodup_cons] at n2
        obtain ⟨q, hq, _⟩ := findIdx_get hi
        obtain ⟨nm, u, us, Gi, Gr, g1, g2, g3, g4, g5, g6, g7⟩ := OwfIn.hole fls b 0 nf G hF n2.2 i (by rw [← hlen]; exact (List.getElem?_eq_some_iff.1 hq).1)
        refine ⟨u, us, Gi, b :: (Gr ++ Fi), hg.trans (by rw [g1]; rfl), g2, g3, g4, fun x hx => ⟨?_, ?_⟩, fun x hx => ?_, List.mem_cons_self .., ?_⟩
        · exact List.mem_append_right _ (List.mem_cons_of_mem _ (g5 x hx).1)
        · intro hx'
          rcases List.mem_cons.1 hx' with rfl | hx'
          · exact n2.1 (g5 _ hx).1
          · rcases List.mem_append.1 hx' with hx' | hx'
            · exact (g5 x hx).2 hx'
            · exact n3 x hx' x (List.mem_cons_of_mem _ (g5 x hx).1) rfl
        · rcases List.mem_cons.1 hx with rfl | hx
          · exact List.mem_append_right _ (List.mem_cons_self ..)
          · rcases List.mem_append.1 hx with hx | hx
            · exact List.mem_append_right _ (List.mem_cons_of_mem _ (g6 x hx))
            · exact List.mem_append_left _ hx
        · intro w' x ds ha hr hx
          have a1 : Agree Gr w w' := ha.agree (fun c hc => List.mem_cons_of_mem _ (List.mem_append_left _ hc)) (fun h => n2.1 (g6 _ h))
          have a2 : Agree Fi w w' := ha.agree (fun c hc => List.mem_cons_of_mem _ (List.mem_append_right _ hc)) (fun h => n3 b h b (List.mem_cons_self ..) rfl)
          have hV := g7 w' x ds a1 (fun j hj => ha b (List.mem_cons_self ..) j (.inr hj)) hr hx
          rw [hset, if_neg ht]
          unfold VlC
          refine ⟨ai, nI, ci, _, nf, cf, rfl, ?_, hV, hni, hnf, hai, haf, hk1, hk2, hk3, hk4, hci, hcf⟩
          rcases hI with ⟨rfl, rfl, rfl, _⟩ | ⟨p', G', rfl, rfl, hI⟩
          · unfold VlsAt; rfl
          · exact OwsIn.read _ _ _ _ _ (OwsIn.agree its p' 0 nI G' a2 hI)
    · rw [if_neg hc] at hi
      cases hi
/-- the way down from a value of the call's own: where it stands, and what a write there makes of the whole -/
structure Way (W : World) (lo b0 : Nat) (v : Vl) (ss : List St) (k b o : Nat) (u : Vl) (us : List Value) : Prop where
  got : getP v (ss.take k) = some u
  row : Row8 W b o us
  ctx : ∃ Fu G, OwC W u us Fu ∧ Fu.Nodup ∧ (∀ c ∈ Fu, c ≠ b0 ∧ c ∉ G) ∧ (b = b0 ∨ b ∈ G) ∧ (∀ c ∈ b0 :: G, lo ≤ c ∧ c < W.heap.size) ∧ (∀ c ∈ Fu, lo ≤ c ∧ c < W.heap.size) ∧ Fz W (b0 :: G) ∧ Fz W Fu ∧ ∃ R : Vl → Vl, (∀ x, setP v (ss.take k) x = some (R x)) ∧
    ∀ w' x ds, AgreeBut (b0 :: G) b o W w' → Row8 w' b o ds → VlC w' x ds → ∃ cs', Row8 w' b0 0 cs' ∧ VlC w' (R x) cs'
theorem Way.step {W : World} {lo b0 : Nat} {v : Vl} {ss : List St} {k b o : Nat} {u : Vl} {us : List Value} {s : St} {i b' o' : Nat} (h : Way W lo b0 v ss k b o u us) (hs : ss[k]? = some s) (hi : chI u s = some i) (hl : Loc us s i b' o') : ∃ u' us', Way W lo b0 v ss (k + 1) b' o' u' us' := by
  obtain ⟨got, row, Fu, G, hO, hnd, hd, hb, hlt, hlt', fz, fz', R, hR, hctx⟩ := h
  obtain ⟨u', us', Fu', Gr, g1, g2, g3, g4, g5, g6, g7, g8⟩ := hO.hole hnd hi hl
  have htk : ss.take (k + 1) = ss.take k ++ [s] := by rw [List.take_add_one, hs]; rfl
  refine ⟨u', us', by rw [getP_take got hs]; exact g1, g2, Fu', G ++ Gr, g3, g4, fun c hc => ⟨(hd c (g5 c hc).1).1, fun h' => ?_⟩, .inr (List.mem_append_right _ g7), fun c hc => ?_, fun c hc => hlt' c (g5 c hc).1, fun c hc => ?_, fun c hc => fz' c (g5 c hc).1, fun x => R (setS u s i x), fun x => ?_, ?_⟩
  · rcases List.mem_append.1 h' with h' | h'
    · exact (hd c (g5 c hc).1).2 h'
    · exact (g5 c hc).2 h'
  · rcases List.mem_cons.1 hc with rfl | hc
    · exact hlt _ (List.mem_cons_self ..)
    · rcases List.mem_append.1 hc with hc | hc
      · exact hlt c (List.mem_cons_of_mem _ hc)
      · exact hlt' c (g6 c hc)
  · rcases List.mem_cons.1 hc with rfl | hc
    · exact fz _ (List.mem_cons_self ..)
    · rcases List.mem_append.1 hc with hc | hc
      · exact fz c (List.mem_cons_of_mem _ hc)
      · exact fz' c (g6 c hc)
  · rw [htk, setP_snoc x got hi g1]
    exact hR _
  · intro w' x ds ha hr hx
    have hb' := hd b' (g6 b' g7)
    have ag : Agree (b0 :: G) W w' := ha.agree (fun c hc => by
      rcases List.mem_cons.1 hc with rfl | hc
      · exact List.mem_cons_self ..
      · exact List.mem_cons_of_mem _ (List.mem_append_left _ hc)) (fun h => by
      rcases List.mem_cons.1 h with h | h
      · exact hb'.1 h
      · exact hb'.2 h)
    have hbm : b ∈ b0 :: G := by
      rcases hb with rfl | hb
      · exact List.mem_cons_self ..
      · exact List.mem_cons_of_mem _ hb
    have hv := g8 w' x ds (fun c hc j hj => ha c (List.mem_cons_of_mem _ (List.mem_append_right _ hc)) j hj) hr hx
    exact hctx w' (setS u s i x) us (fun c hc j _ => ag c hc j) (row.agree hbm ag) hv
end Go.Proofs.Ythpcpminikmcbaa.vl
namespace Go.Proofs.Ythpcpminikmcbaa.vl
open Go.ChangeShapes Go.WideShapes Go.ChangeAt Go.RowKit
open stp (St Pth St3)
set_option linter.unusedVariables false
set_option linter.unusedSimpArgs false
theorem row_uniq {w : World} {b o : Nat} {l l' : List Value} (h : Row8 w b o l) (h' : Row8 w b o l') (hl : l.length = l'.length) : l = l' := by
  apply List.ext_getElem? 
  intro i
  by_cases hi : i < l.length
  · have h1 := h i _ (List.getElem?_eq_getElem hi)
    have h2 := h' i _ (List.getElem?_eq_getElem (hl ▸ hi))
    rw [List.getElem?_eq_getElem hi, List.getElem?_eq_getElem (hl ▸ hi)]
    exact h1.symm.trans h2
  · rw [List.getElem?_eq_none (by omega), List.getElem?_eq_none (by omega)]
end Go.Proofs.Ythpcpminikmcbaa.vl
namespace Go.Proofs.Ythpcpminikmcbaa.vl
open Go.ChangeShapes Go.WideShapes Go.ChangeAt Go.RowKit
open stp (St Pth St3)
set_option linter.unusedVariables false
set_option linter.unusedSimpArgs false
/-- what is known of a kind -/
def kOf (k : Int) : Vl → Prop
  | .mk kd b n f tx ty its fls => (k = 5 ↔ kd = 5) ∧ (k = 6 ↔ kd = 6)
set_option maxHeartbeats 4000000 in
theorem kind_ok (v : Vl) (cs : List Value) (w : World) (hv : VlC w v cs) : Calls Try.prog 88 #[.agg cs.toArray] w fun e w' => Below w.heap.size w w' ∧ ∃ k : Int, e = .returned (.int .i64 k) ∧ kOf k v := by
  obtain ⟨kd, bb, ni, f, tx, ty, its, fls⟩ := v
  have h8 := hv.cells
  have hw : (Lit.int .i64 kd).wf = true := by unfold VlC at hv; obtain ⟨_, _, _, _, _, _, _, _, _, _, _, _, _, h, _⟩ := hv; exact h
  have h0 : cs[0]? = some (.int .i64 kd) := by unfold VlC at hv; obtain ⟨_, _, _, _, _, _, rfl, _⟩ := hv; rfl
  have x0 : (w.alloc (.cells cs.toArray 27)).cell? ⟨w.heap.size, 0, none⟩ = some (.int .i64 kd) := by rw [World.cell?_alloc_at _ _ _ _ rfl]; simpa using h0
  have hB : Below w.heap.size w (w.alloc (.cells cs.toArray 27)) := (Below.refl _ _).alloc (Nat.le_refl _) _
  clear hv
  go_enter Try.func88, Try.ntmps88
  go_wp2
  all_goals
    go_ret
    refine ⟨hB, _, rfl, ?_⟩
    unfold kOf
    omega
end Go.Proofs.Ythpcpminikmcbaa.vl
namespace Go.Proofs.Ythpcpminikmcbaa.vl
open Go.ChangeShapes Go.WideShapes Go.ChangeAt Go.RowKit
set_option linter.unusedVariables false
set_option linter.unusedSimpArgs false
/-- a list of things that are owned, each in so many cells -/
def OwL {E : Type} (Ow : World → E → List Value → List Nat → Prop) (w : World) : List E → List (List Value) → List Nat → Prop
  | [], xss, G => xss = [] ∧ G = []
  | v :: r, xss, G => ∃ cs l G1 G2, xss = cs :: l ∧ Ow w v cs G1 ∧ OwL Ow w r l G2 ∧ G = G1 ++ G2
theorem OwL.snoc {E : Type} {Ow : World → E → List Value → List Nat → Prop} {w : World} {v : E} {cs : List Value} {G' : List Nat} (hv : Ow w v cs G') : ∀ {l : List E} {xss : List (List Value)} {G : List Nat}, OwL Ow w l xss G → OwL Ow w (l ++ [v]) (xss ++ [cs]) (G ++ G')
  | [], xss, G, h => by
    obtain ⟨rfl, rfl⟩ := h
    exact ⟨cs, [], G', [], rfl, hv, ⟨rfl, rfl⟩, by simp⟩
  | u :: r, xss, G, h => by
    obtain ⟨ds, l, G1, G2, rfl, h1, h2, rfl⟩ := h
    exact ⟨ds, l ++ [cs], G1, G2 ++ G', rfl, h1, OwL.snoc hv h2, by simp⟩
theorem OwL.agree {E : Type} {Ow : World → E → List Value → List Nat → Prop} (ha : ∀ w w' e cs F, Agree F w w' → Ow w e cs F → Ow w' e cs F) {w w' : World} : ∀ {l : List E} {xss : List (List Value)} {G : List Nat}, Agree G w w' → OwL Ow w l xss G → OwL Ow w' l xss G
  | [], xss, G, hg, h => h
  | u :: r, xss, G, hg, h => by
    obtain ⟨ds, l, G1, G2, rfl, h1, h2, rfl⟩ := h
    exact ⟨ds, l, G1, G2, rfl, ha w w' u ds G1 hg.left h1, OwL.agree ha hg.right h2, rfl⟩
/-- a list that grows by append -/
structure Grow {E : Type} (Ow : World → E → List Value → List Nat → Prop) (t : TypeId) (size : Nat) (w : World) (B : Nat) (l : List E) (sl : Value) (G : List Nat) : Prop where
  nodup : G.Nodup
  rng : ∀ b ∈ G, B ≤ b ∧ b < w.heap.size
  own : ∀ b ∈ G, sl.ownBlock ≠ some b
  fz : Fz w G
  row : ∃ xss, w.ownsRow B t size sl l.length xss.flatten ∧ OwL Ow w l xss G
theorem Grow.nil {E : Type} {Ow : World → E → List Value → List Nat → Prop} {t : TypeId} {size : Nat} {w : World} {B : Nat} : Grow Ow t size w B [] (.slice none 0 0) [] :=
  ⟨List.nodup_nil, by simp, by simp, fun b hb => by simp at hb, [], ⟨by simp, .inl ⟨rfl, rfl⟩⟩, rfl, rfl⟩
theorem cell_blk {w w' : World} {b : Nat} (h : w'.heap[b]? = w.heap[b]?) (j : Nat) : w'.cell? ⟨b, j, none⟩ = w.cell? ⟨b, j, none⟩ := World.cell?_of_block (w := w) (a := ⟨b, j, none⟩) h
theorem frozen_blk {w w' : World} {b : Nat} (h : w'.heap[b]? = w.heap[b]?) (j : Nat) : w'.frozen? ⟨b, j, none⟩ = w.frozen? ⟨b, j, none⟩ := World.frozen?_of_block (w := w) (a := ⟨b, j, none⟩) h
theorem Grow.keep {E : Type} {Ow : World → E → List Value → List Nat → Prop} (ha : ∀ w w' e cs F, Agree F w w' → Ow w e cs F → Ow w' e cs F) {t : TypeId} {size : Nat} {w w' : World} {B : Nat} {l : List E} {sl : Value} {G : List Nat} (h : Grow Ow t size w B l sl G) (hs : w.heap.size ≤ w'.heap.size)
    (hb : ∀ b, b < w.heap.size → B ≤ b → (b ∈ G ∨ sl.ownBlock = some b) → w'.heap[b]? = w.heap[b]?) : Grow Ow t size w' B l sl G := by
  obtain ⟨xss, hr, hl⟩ := h.row
  have hG : ∀ b ∈ G, w'.heap[b]? = w.heap[b]? := fun b hm => hb b (h.rng b hm).2 (h.rng b hm).1 (.inl hm)
  refine ⟨h.nodup, fun b hm => ⟨(h.rng b hm).1, Nat.lt_of_lt_of_le (h.rng b hm).2 hs⟩, h.own, fun b hm j => (frozen_blk (hG b hm) j).trans (h.fz b hm j), xss, ?_, OwL.agree ha (fun b hm j => cell_blk (hG b hm) j) hl⟩
  have hlt := hr.lt
  obtain ⟨h1, h2⟩ := hr
  refine ⟨h1, ?_⟩
  rcases h2 with h2 | ⟨g, cap, cur, hv, hg, hh, r⟩
  · exact .inl h2
  · have hob : sl.ownBlock = some g := by rw [hv]; rfl
    exact .inr ⟨g, cap, cur, hv, hg, (hb g (hlt g hob).2 hg (.inr hob)).trans hh, r⟩
theorem Grow.below {E : Type} {Ow : World → E → List Value → List Nat → Prop} (ha : ∀ w w' e cs F, Agree F w w' → Ow w e cs F → Ow w' e cs F) {t : TypeId} {size : Nat} {w w' : World} {B : Nat} {l : List E} {sl : Value} {G : List Nat} (h : Grow Ow t size w B l sl G) (hb : Below w.heap.size w w') : Grow Ow t size w' B l sl G :=
  h.keep ha hb.size (fun b hl _ _ => hb.block b hl)
/-- a write outside -/
theorem heap_setCells (b : Nat) (c : Nat) (h : c ≠ b) : ∀ (vs : List Value) (o : Nat) (w : World), (w.setCells b o vs).heap[c]? = w.heap[c]?
  | [], o, w => rfl
  | v :: r, o, w => by rw [World.setCells, heap_setCells b c h r (o + 1)]; exact Below.heap_setCell w ⟨b, o, none⟩ v c h
theorem Grow.setCells {E : Type} {Ow : World → E → List Value → List Nat → Prop} (ha : ∀ w w' e cs F, Agree F w w' → Ow w e cs F → Ow w' e cs F) {t : TypeId} {size : Nat} {w : World} {B : Nat} {l : List E} {sl : Value} {G : List Nat} (h : Grow Ow t size w B l sl G) (b o : Nat) (vs : List Value) (hb : b < B) : Grow Ow t size (w.setCells b o vs) B l sl G :=
  h.keep ha (by rw [size_setCells]; exact Nat.le_refl _) (fun c _ hc _ => heap_setCells b c (by omega) vs o w)
/-- one more -/
theorem wpO_grow {E : Type} {Ow : World → E → List Value → List Nat → Prop} (ha : ∀ w w' e cs F, Agree F w w' → Ow w e cs F → Ow w' e cs F) {P : Program} {t e : TypeId} {size bytes : Nat} {i : TypeInfo} {z : Value} {w : World} {o : Oper} {a : Act} {K : Act → World → Prop} {Q : Exit → Act → World → Prop} (s x : Operand)
    (ho : o.op = .call { callee := .builtin .append, args := #[s, x], argTypes := #[t, t] }) (ht : P.underlying t = some (.slice e)) (hi : P.info? e = some i) (hz : i.zero = some z)
    (hsize : i.size = size) (hby : i.bytes = bytes) (hzs : z.cells.size = size) (hsz : 0 < size)
    (B : Nat) (l : List E) (sl : Value) (G : List Nat) (hs : a.eval s = sl) (hg : Grow Ow e size w B l sl G) (v : E) (ds : List Value) (G' : List Nat) (hv : Ow w v ds G') (hl : ds.length = size) (h1 : ∀ u ∈ ds, u.oneCell' = true)
    (hn' : G'.Nodup) (hr' : ∀ b ∈ G', B ≤ b ∧ b < w.heap.size ∧ b ∉ G ∧ sl.ownBlock ≠ some b) (hf' : Fz w G') (N : Nat) (hN : N = w.heap.size) (hx : a.eval x = .slice (some ⟨N, 0, none⟩) 1 1) (hbytes : (l.length + 1) * bytes ≤ 140737488355328) (h63 : l.length + 1 ≤ maxLen) (hB : B ≤ w.heap.size)
    (h : ∀ sl' w', Grow Ow e size w' B (l ++ [v]) sl' (G ++ G') → Below B w w' → (∀ b, b < w.heap.size → sl.ownBlock ≠ some b → w'.heap[b]? = w.heap[b]?) → K (a.put o.dst sl') w') : o.wp P a (w.alloc (.cells ds.toArray e)) K Q := by
  subst hN
  obtain ⟨xss, hrow, hol⟩ := hg.row
  refine wp_append_lies _ s x t ho B e i z size bytes ht hi hz hsize hby hzs hsz sl l.length xss.flatten hs (World.ownsRow.alloc hrow _) ⟨w.heap.size, 0, none⟩ 1 1 ds hx (by rw [hl]; omega) (fun j u hu => by
    rw [Addr.add_mid, Nat.zero_add, World.cell?_alloc_at _ _ _ _ rfl]; simpa using hu) h1 (by omega) h63 hbytes (by simp; omega) (w.heap.size + 1) (by simp) ?_
  intro g cap w' hrow' hgr hat hlt
  have hold : ∀ b, b < w.heap.size → sl.ownBlock ≠ some b → w'.heap[b]? = w.heap[b]? := fun b hb hne => by
    rw [hgr.block b (by simp; omega) (fun e => hne e.symm)]
    exact Below.heap_alloc w _ b hb
  have hsz' : w.heap.size ≤ w'.heap.size := by have := hgr.size; simp at this; omega
  refine h _ w' ⟨?_, ?_, ?_, ?_, xss ++ [ds], ?_, ?_⟩ (((Below.refl _ _).alloc hB _).grown hgr (by simp; omega) (fun k hk => (hrow.lt k hk).1)) hold
  · rw [List.nodup_append]
    exact ⟨hg.nodup, hn', fun x hx y hy e => (hr' y hy).2.2.1 (e ▸ hx)⟩
  · intro b hb
    rcases List.mem_append.1 hb with hb | hb
    · exact ⟨(hg.rng b hb).1, Nat.lt_of_lt_of_le (hg.rng b hb).2 hsz'⟩
    · exact ⟨(hr' b hb).1, Nat.lt_of_lt_of_le (hr' b hb).2.1 hsz'⟩
  · intro b hb e
    have hgb : g = b := Option.some.inj e
    subst hgb
    have hlt' : g < w.heap.size := by
      rcases List.mem_append.1 hb with hb | hb
      · exact (hg.rng g hb).2
      · exact (hr' g hb).2.1
    rcases hat with hat | hat
    · rcases List.mem_append.1 hb with hb | hb
      · exact hg.own g hb hat
      · exact (hr' g hb).2.2.2 hat
    · omega
  · intro b hb j
    rcases List.mem_append.1 hb with hb | hb
    · exact (frozen_blk (hold b (hg.rng b hb).2 (hg.own b hb)) j).trans (hg.fz b hb j)
    · exact (frozen_blk (hold b (hr' b hb).2.1 (hr' b hb).2.2.2) j).trans (hf' b hb j)
  · simpa using hrow'
  · refine OwL.agree ha (fun b hb j => ?_) (OwL.snoc hv hol)
    rcases List.mem_append.1 hb with hb | hb
    · exact cell_blk (hold b (hg.rng b hb).2 (hg.own b hb)) j
    · exact cell_blk (hold b (hr' b hb).2.1 (hr' b hb).2.2.2) j
theorem wp_grow {E : Type} {Ow : World → E → List Value → List Nat → Prop} (ha : ∀ w w' e cs F, Agree F w w' → Ow w e cs F → Ow w' e cs F) {P : Program} {t e : TypeId} {size bytes : Nat} {i : TypeInfo} {z : Value} {w : World} {ops : Array Oper} {rest : List Oper} {o : Oper} {a : Act} {Q : Exit → Act → World → Prop} (hgd : o.guard = none) (s x : Operand)
    (ho : o.op = .call { callee := .builtin .append, args := #[s, x], argTypes := #[t, t] }) (ht : P.underlying t = some (.slice e)) (hi : P.info? e = some i) (hz : i.zero = some z)
    (hsize : i.size = size) (hby : i.bytes = bytes) (hzs : z.cells.size = size) (hsz : 0 < size)
    (B : Nat) (l : List E) (sl : Value) (G : List Nat) (hs : a.eval s = sl) (hg : Grow Ow e size w B l sl G) (v : E) (ds : List Value) (G' : List Nat) (hv : Ow w v ds G') (hl : ds.length = size) (h1 : ∀ u ∈ ds, u.oneCell' = true)
    (hn' : G'.Nodup) (hr' : ∀ b ∈ G', B ≤ b ∧ b < w.heap.size ∧ b ∉ G ∧ sl.ownBlock ≠ some b) (hf' : Fz w G') (N : Nat) (hN : N = w.heap.size) (hx : a.eval x = .slice (some ⟨N, 0, none⟩) 1 1) (hbytes : (l.length + 1) * bytes ≤ 140737488355328) (h63 : l.length + 1 ≤ maxLen) (hB : B ≤ w.heap.size)
    (h : ∀ sl' w', Grow Ow e size w' B (l ++ [v]) sl' (G ++ G') → Below B w w' → wpList P ops Q rest (a.put o.dst sl') w') : wpList P ops Q (o :: rest) a (w.alloc (.cells ds.toArray e)) :=
  wpList_plain hgd fun _ hK => wpO_grow ha s x ho ht hi hz hsize hby hzs hsz B l sl G hs hg v ds G' hv hl h1 hn' hr' hf' N hN hx hbytes h63 hB fun sl' w' g b _ => hK _ _ (h sl' w' g b)
end Go.Proofs.Ythpcpminikmcbaa.vl
namespace Go.Proofs.Ythpcpminikmcbaa.vl
open Go.ChangeShapes Go.WideShapes Go.ChangeAt Go.RowKit
set_option linter.unusedVariables false
set_option linter.unusedSimpArgs false
/-- a member that is owned -/
def OwM (w : World) (q : ByteArray × Vl) (cs : List Value) (F : List Nat) : Prop := ∃ ds, cs = Value.string q.1 :: ds ∧ q.1.size ≤ maxLen ∧ OwC w q.2 ds F
theorem agV : ∀ (w w' : World) (e : Vl) (cs : List Value) (F : List Nat), Agree F w w' → OwC w e cs F → OwC w' e cs F := fun _ _ e cs F ha h => OwC.agree e cs F ha h
theorem agM : ∀ (w w' : World) (e : ByteArray × Vl) (cs : List Value) (F : List Nat), Agree F w w' → OwM w e cs F → OwM w' e cs F := fun _ _ e cs F ha ⟨ds, h1, h2, h3⟩ => ⟨ds, h1, h2, OwC.agree e.2 ds F ha h3⟩
theorem OwL.insV {w : World} : ∀ {l : List Vl} {xss : List (List Value)} {G : List Nat} (p off : Nat), OwL OwC w l xss G → (∀ j u, xss.flatten[j]? = some u → w.cell? ⟨p, off + j, none⟩ = some u) → OwsIn w (Vls.of l) p off l.length G
  | [], xss, G, p, off, h, hc => by
    obtain ⟨rfl, rfl⟩ := h
    simp only [Vls.of]
    unfold OwsIn
    exact ⟨rfl, rfl⟩
  | v :: r, xss, G, p, off, h, hc => by
    obtain ⟨cs, l, G1, G2, rfl, h1, h2, rfl⟩ := h
    have h8 := (OwC.read v cs G1 h1).cells
    simp only [Vls.of]
    unfold OwsIn
    refine ⟨r.length, cs, G1, G2, rfl, fun j u hu => hc j u ?_, h1, OwL.insV p (off + 8) h2 (fun j u hu => ?_), rfl⟩
    · rw [List.flatten_cons, List.getElem?_append_left (List.getElem?_eq_some_iff.1 hu).1]; exact hu
    · rw [show off + 8 + j = off + (8 + j) by omega]
      refine hc (8 + j) u ?_
      rw [List.flatten_cons, List.getElem?_append_right (by omega), h8]
      simpa using hu
theorem OwL.insM {w : World} : ∀ {l : List (ByteArray × Vl)} {xss : List (List Value)} {G : List Nat} (p off : Nat), OwL OwM w l xss G → (∀ j u, xss.flatten[j]? = some u → w.cell? ⟨p, off + j, none⟩ = some u) → OwfIn w (Fls.of l) p off l.length G
  | [], xss, G, p, off, h, hc => by
    obtain ⟨rfl, rfl⟩ := h
    simp only [Fls.of]
    unfold OwfIn
    exact ⟨rfl, rfl⟩
  | q :: r, xss, G, p, off, h, hc => by
    obtain ⟨cs, l, G1, G2, rfl, ⟨ds, rfl, hz, h1⟩, h2, rfl⟩ := h
    have h8 := (OwC.read q.2 ds G1 h1).cells
    simp only [Fls.of]
    unfold OwfIn
    refine ⟨r.length, ds, G1, G2, rfl, ?_, hz, fun j u hu => ?_, h1, OwL.insM p (off + 9) h2 (fun j u hu => ?_), rfl⟩
    · exact hc 0 _ rfl
    · rw [show off + 1 + j = off + (j + 1) by omega]
      refine hc (j + 1) u ?_
      rw [List.flatten_cons, List.getElem?_append_left (by have := (List.getElem?_eq_some_iff.1 hu).1; simp; omega)]
      simpa using hu
    · rw [show off + 9 + j = off + (9 + j) by omega]
      refine hc (9 + j) u ?_
      rw [List.flatten_cons, List.getElem?_append_right (by simp; omega)]
      simpa [h8] using hu
theorem Grow.parts {E : Type} {Ow : World → E → List Value → List Nat → Prop} {t : TypeId} {size : Nat} {w : World} {B : Nat} {l : List E} {sl : Value} {G : List Nat} (h : Grow Ow t size w B l sl G) :
    ∃ (aj : Option Addr) (cj : Nat) (F : List Nat), sl = .slice aj l.length cj ∧ ((aj = none ∧ l = [] ∧ l.length = 0 ∧ F = []) ∨ ∃ p xss, aj = some ⟨p, 0, none⟩ ∧ F = p :: G ∧ OwL Ow w l xss G ∧ ∀ j u, xss.flatten[j]? = some u → w.cell? ⟨p, 0 + j, none⟩ = some u) ∧ F.Nodup ∧ (∀ b ∈ F, B ≤ b ∧ b < w.heap.size) ∧ Fz w F ∧ l.length ≤ cj ∧ (aj = none → cj = 0) ∧ cj ≤ maxLen := by
  obtain ⟨xss, hr, hl⟩ := h.row
  have hlt := hr.lt
  have hr' := hr
  obtain ⟨h1, h2⟩ := hr
  rcases h2 with ⟨rfl, h0⟩ | ⟨g, cap, cur, rfl, hg, hh, hc1, hc2, r⟩
  · have hl0 : l = [] := List.length_eq_zero_iff.1 h0
    subst hl0
    exact ⟨none, 0, [], rfl, .inl ⟨rfl, rfl, rfl, rfl⟩, List.nodup_nil, by simp, fun b hb => by simp at hb, Nat.le_refl _, fun _ => rfl, Nat.zero_le _⟩
  · have hgl := hlt g rfl
    refine ⟨_, cap, g :: G, rfl, .inr ⟨g, xss, rfl, rfl, hl, fun j u hu => ?_⟩, List.nodup_cons.2 ⟨fun hm => h.own g hm rfl, h.nodup⟩, fun b hb => ?_, fun b hb j => ?_, hc1, fun e => (by cases e), hc2⟩
    · rw [Nat.zero_add, hr'.cellAt j (by rw [← h1]; exact (List.getElem?_eq_some_iff.1 hu).1)]
      exact hu
    · rcases List.mem_cons.1 hb with rfl | hb
      · exact hgl
      · exact h.rng b hb
    · rcases List.mem_cons.1 hb with rfl | hb
      · exact hr'.frozenAt j
      · exact h.fz b hb j
theorem Grow.form {E : Type} {Ow : World → E → List Value → List Nat → Prop} {t : TypeId} {size : Nat} {w : World} {B : Nat} {l : List E} {sl : Value} {G : List Nat} (h : Grow Ow t size w B l sl G) : ∃ aj n cj, sl = .slice aj n cj := by
  obtain ⟨aj, cj, _, h, _⟩ := h.parts
  exact ⟨aj, _, cj, h⟩
theorem buildV {w0 : World} {v : Vl} {ds : List Value} (h : VlC w0 v ds) (w : World) : (Instr.buildSlice 24 1 #[(0, .agg ds.toArray)]).run Try.prog w = .ok (.slice (some ⟨w.heap.size, 0, none⟩) 1 1) (w.alloc (.cells ds.toArray 27)) := by
  cases v
  unfold VlC at h
  obtain ⟨_, _, _, _, _, _, rfl, -⟩ := h
  go_simp
theorem buildM {w0 : World} {v : Vl} {ds : List Value} (nm : ByteArray) (h : VlC w0 v ds) (w : World) : (Instr.buildSlice 25 1 #[(0, .agg (Value.string nm :: ds).toArray)]).run Try.prog w = .ok (.slice (some ⟨w.heap.size, 0, none⟩) 1 1) (w.alloc (.cells (Value.string nm :: ds).toArray 69)) := by
  cases v
  unfold VlC at h
  obtain ⟨_, _, _, _, _, _, rfl, -⟩ := h
  go_simp
theorem wpO_buildOne {P : Program} {o : Oper} {a : Act} {w w' : World} {K : Act → World → Prop} {Q : Exit → Act → World → Prop} (t : TypeId) (x : Operand) (ho : o.op = .buildSlice t 1 #[(0, x)]) (v sl : Value) (hx : a.eval x = v) (hr : (Instr.buildSlice t 1 #[(0, v)]).run P w = .ok sl w')
    (h : K (a.put o.dst sl) w') : o.wp P a w K Q := by
  unfold Oper.wp execOp
  simp only [ho, List.map_toArray, List.map_cons, List.map_nil, hx, Sem.run_bind, hr, Result.andThen_ok, Sem.run_pure]
  exact h
theorem wpList_buildOne {P : Program} {ops : Array Oper} {rest : List Oper} {o : Oper} {a : Act} {w w' : World} {Q : Exit → Act → World → Prop} (hgd : o.guard = none) (t : TypeId) (x : Operand) (ho : o.op = .buildSlice t 1 #[(0, x)]) (v sl : Value) (hx : a.eval x = v) (hr : (Instr.buildSlice t 1 #[(0, v)]).run P w = .ok sl w')
    (h : wpList P ops Q rest (a.put o.dst sl) w') : wpList P ops Q (o :: rest) a w :=
  wpList_plain hgd fun _ hK => by
    unfold Oper.wp execOp
    simp only [ho, List.map_toArray, List.map_cons, List.map_nil, hx, Sem.run_bind, hr, Result.andThen_ok, Sem.run_pure]
    exact hK _ _ h
end Go.Proofs.Ythpcpminikmcbaa.vl
namespace Go.Proofs.Ythpcpminikmcbaa.vl
open Go.ChangeShapes Go.WideShapes Go.ChangeAt Go.RowKit
set_option linter.unusedVariables false
set_option linter.unusedSimpArgs false
theorem storeF (f : Nat) (a : Addr) (w : World) (m : Mode) : (store a (.float .f64 f) m).run Try.prog w = stored Try.prog w a (.float .f64 f) m := run_store _ _ _ _ _ rfl
def RCopyAt (v : Vl) : Prop := ∀ (cs : List Value) (w : World), VlC w v cs → Calls Try.prog 52 #[.agg cs.toArray] w fun e w' => ∃ (ds : List Value) (F : List Nat), e = .returned (.agg ds.toArray) ∧ OwC w' v ds F ∧ F.Nodup ∧ (∀ b ∈ F, w.heap.size ≤ b ∧ b < w'.heap.size) ∧ Below w.heap.size w w' ∧ Fz w' F
/-- the call's own variables: v's two lists, the result, and w -/
structure Vars (w0 : World) (kd : Int) (bb : Bool) (ni : Int) (f : Nat) (tx ty : ByteArray) (ai : Option Addr) (nI ci : Nat) (af : Option Addr) (nf cf : Nat) (s6 s7 : Value) (w : World) : Prop where
  x6 : w.cell? ⟨w0.heap.size, 6, none⟩ = some (.slice ai nI ci)
  x7 : w.cell? ⟨w0.heap.size, 7, none⟩ = some (.slice af nf cf)
  res : w.there (w0.heap.size + 1) 0 8
  row : w.rangeAt (w0.heap.size + 1 + 1) 0 [.int .i64 kd, .bool bb, .int .i64 ni, .float .f64 f, .string tx, .string ty, s6, s7]
  may : w.there (w0.heap.size + 1 + 1) 0 8
  bel : Below w0.heap.size w0 w
  siz : w0.heap.size + 3 ≤ w.heap.size
theorem Vars.below {w0 : World} {kd : Int} {bb : Bool} {ni : Int} {f : Nat} {tx ty : ByteArray} {ai : Option Addr} {nI ci : Nat} {af : Option Addr} {nf cf : Nat} {s6 s7 : Value} {w w' : World} (h : Vars w0 kd bb ni f tx ty ai nI ci af nf cf s6 s7 w) (hb : Below (w0.heap.size + 3) w w') : Vars w0 kd bb ni f tx ty ai nI ci af nf cf s6 s7 w' :=
  ⟨(hb.cell (p := ⟨w0.heap.size, 6, none⟩) (by show w0.heap.size < _; omega)).trans h.x6, (hb.cell (p := ⟨w0.heap.size, 7, none⟩) (by show w0.heap.size < _; omega)).trans h.x7, there_below h.res hb (by omega), fun j u hu => (hb.cell (p := ⟨w0.heap.size + 1 + 1, 0 + j, none⟩) (by show w0.heap.size + 1 + 1 < _; omega)).trans (h.row j u hu), there_below h.may hb (by omega), h.bel.trans (hb.mono (by omega)), Nat.le_trans h.siz hb.size⟩
theorem Vars.put6 {w0 : World} {kd : Int} {bb : Bool} {ni : Int} {f : Nat} {tx ty : ByteArray} {ai : Option Addr} {nI ci : Nat} {af : Option Addr} {nf cf : Nat} {s6 s7 : Value} {w : World} (h : Vars w0 kd bb ni f tx ty ai nI ci af nf cf s6 s7 w) (s : Value) : Vars w0 kd bb ni f tx ty ai nI ci af nf cf s s7 (w.setCells (w0.heap.size + 1 + 1) 6 [s]) := by
  have out : ∀ c j, (c ≠ w0.heap.size + 1 + 1 ∨ j ≠ 6) → (w.setCells (w0.heap.size + 1 + 1) 6 [s]).cell? ⟨c, j, none⟩ = w.cell? ⟨c, j, none⟩ := fun c j hc => World.cell?_setCells_out _ _ _ _ _ (fun e _ => by
    have e : c = w0.heap.size + 1 + 1 := e
    show j < 6 ∨ 6 + 1 ≤ j
    omega)
  refine ⟨(out _ _ (.inl (by omega))).trans h.x6, (out _ _ (.inl (by omega))).trans h.x7, World.there_setCells h.res _ _ _, ?_, World.there_setCells h.may _ _ _, below_setCells _ _ _ _ h.bel (by omega), by rw [size_setCells]; exact h.siz⟩
  intro j u hu
  by_cases h6 : j = 6
  · subst h6
    simp at hu
    rw [← hu]
    exact World.cell?_setCell_same _ _ _ (h.row 6 _ rfl)
  · rw [out _ _ (.inr (by omega))]
    refine h.row j u ?_
    have hj : j < 8 := by have := (List.getElem?_eq_some_iff.1 hu).1; simpa using this
    rcases (by omega : j = 0 ∨ j = 1 ∨ j = 2 ∨ j = 3 ∨ j = 4 ∨ j = 5 ∨ j = 7) with rfl | rfl | rfl | rfl | rfl | rfl | rfl <;> exact hu
theorem Vars.put7 {w0 : World} {kd : Int} {bb : Bool} {ni : Int} {f : Nat} {tx ty : ByteArray} {ai : Option Addr} {nI ci : Nat} {af : Option Addr} {nf cf : Nat} {s6 s7 : Value} {w : World} (h : Vars w0 kd bb ni f tx ty ai nI ci af nf cf s6 s7 w) (s : Value) : Vars w0 kd bb ni f tx ty ai nI ci af nf cf s6 s (w.setCells (w0.heap.size + 1 + 1) 7 [s]) := by
  have out : ∀ c j, (c ≠ w0.heap.size + 1 + 1 ∨ j ≠ 7) → (w.setCells (w0.heap.size + 1 + 1) 7 [s]).cell? ⟨c, j, none⟩ = w.cell? ⟨c, j, none⟩ := fun c j hc => World.cell?_setCells_out _ _ _ _ _ (fun e _ => by
    have e : c = w0.heap.size + 1 + 1 := e
    show j < 7 ∨ 7 + 1 ≤ j
    omega)
  refine ⟨(out _ _ (.inl (by omega))).trans h.x6, (out _ _ (.inl (by omega))).trans h.x7, World.there_setCells h.res _ _ _, ?_, World.there_setCells h.may _ _ _, below_setCells _ _ _ _ h.bel (by omega), by rw [size_setCells]; exact h.siz⟩
  intro j u hu
  by_cases h6 : j = 7
  · subst h6
    simp at hu
    rw [← hu]
    exact World.cell?_setCell_same _ _ _ (h.row 7 _ rfl)
  · rw [out _ _ (.inr (by omega))]
    refine h.row j u ?_
    have hj : j < 8 := by have := (List.getElem?_eq_some_iff.1 hu).1; simpa using this
    rcases (by omega : j = 0 ∨ j = 1 ∨ j = 2 ∨ j = 3 ∨ j = 4 ∨ j = 5 ∨ j = 6) with rfl | rfl | rfl | rfl | rfl | rfl | rfl <;> exact hu
end Go.Proofs.Ythpcpminikmcbaa.vl
namespace Go.Proofs.Ythpcpminikmcbaa.vl
open Go.ChangeShapes Go.WideShapes Go.ChangeAt Go.RowKit
set_option linter.unusedVariables false
set_option linter.unusedSimpArgs false
theorem infoVz : ∃ i z, Try.prog.info? 27 = some i ∧ i.zero = some z ∧ i.size = 8 ∧ i.bytes = 112 ∧ z.cells.size = 8 := by
  have hin : (Try.prog.info? 27).map (fun i => (i.bytes, i.size, i.zero.map (·.cells.size))) = some (112, 8, some 8) := by kernel_rfl
  cases hq : Try.prog.info? 27 with
  | none => simp [hq] at hin
  | some i =>
    simp [hq] at hin
    obtain ⟨h1, h2, z, hz, h3⟩ := hin
    exact ⟨i, z, rfl, hz, h2, h1, h3⟩
theorem loadSM (w : World) (b o : Nat) (u : Value) (h : w.cell? ⟨b, o, none⟩ = some u) : (Instr.loadAt 25 (.pointer (some ⟨b, o, none⟩))).run Try.prog w = .ok u w := by go_simp
theorem wpO_load1 {P : Program} {o : Oper} {a : Act} {w : World} {K : Act → World → Prop} {Q : Exit → Act → World → Prop} (t : TypeId) (x : Operand) (ho : o.op = .load t x) (y v : Value) (hx : a.eval x = y) (hr : (Instr.loadAt t y).run P w = .ok v w) (h : K (a.put o.dst v) w) : o.wp P a w K Q := by
  unfold Oper.wp execOp
  simp only [ho, hx, Sem.run_bind, hr, Result.andThen_ok, Sem.run_pure]
  exact h
theorem infoMz : ∃ i z, Try.prog.info? 69 = some i ∧ i.zero = some z ∧ i.size = 9 ∧ i.bytes = 128 ∧ z.cells.size = 9 := by
  have hin : (Try.prog.info? 69).map (fun i => (i.bytes, i.size, i.zero.map (·.cells.size))) = some (128, 9, some 9) := by kernel_rfl
  cases hq : Try.prog.info? 69 with
  | none => simp [hq] at hin
  | some i =>
    simp [hq] at hin
    obtain ⟨h1, h2, z, hz, h3⟩ := hin
    exact ⟨i, z, rfl, hz, h2, h1, h3⟩
set_option maxHeartbeats 6000000 in
set_option maxRecDepth 6000 in
theorem rcopy_ok : ∀ v : Vl, Small v → RCopyAt v := by
  refine Vl.all ?_
  intro kd bb ni f tx ty its fls ihI ihF hsm cs w hv
  unfold Small at hsm
  obtain ⟨hl1, hl2, -, hsI, hsF⟩ := hsm
  unfold VlC at hv
  obtain ⟨ai, nI, ci, af, nf, cf, rfl, hI, hF, hni, hnf, hai, haf, hk1, hk2, hk3, hk4, hci, hcf⟩ := hv
  have hlI := VlsAt.len its _ _ hI
  have hlF := FlsAt.len fls _ _ hF
  have hsf := storeF
  obtain ⟨W, eW⟩ : ∃ W, W = (((w.alloc (.cells #[.int .i64 kd, .bool bb, .int .i64 ni, .float .f64 f, .string tx, .string ty, .slice ai nI ci, .slice af nf cf] 27)).alloc (.cells #[.int .i64 0, .bool false, .int .i64 0, .float .f64 0, .string { data := #[] }, .string { data := #[] }, .slice none 0 0, .slice none 0 0] 27)).alloc (.cells #[.int .i64 kd, .bool bb, .int .i64 ni, .float .f64 f, .string tx, .string ty, .slice none 0 0, .slice none 0 0] 27)) := ⟨_, rfl⟩
  have hV0 : Vars w kd bb ni f tx ty ai nI ci af nf cf (.slice none 0 0) (.slice none 0 0) W := by
    rw [eW]
    refine ⟨((World.cell?_alloc_past _ _ _ (by simp; omega)).trans ((World.cell?_alloc_past _ _ _ (by simp)).trans ((World.cell?_alloc_at _ _ _ _ rfl).trans rfl))), ((World.cell?_alloc_past _ _ _ (by simp; omega)).trans ((World.cell?_alloc_past _ _ _ (by simp)).trans ((World.cell?_alloc_at _ _ _ _ rfl).trans rfl))), ?_, ?_, ?_, (((Below.refl _ _).alloc (Nat.le_refl _) _).alloc (by simp) _).alloc (by simp; omega) _, by simp⟩
    · have h := there_new (w := w.alloc (.cells #[.int .i64 kd, .bool bb, .int .i64 ni, .float .f64 f, .string tx, .string ty, .slice ai nI ci, .slice af nf cf] 27)) (Z := #[.int .i64 0, .bool false, .int .i64 0, .float .f64 0, .string { data := #[] }, .string { data := #[] }, .slice none 0 0, .slice none 0 0]) (t := 27) (n := 8) rfl
      exact World.there_alloc (by simpa using h) _
    · intro j u hu
      rw [Nat.zero_add, World.cell?_alloc_at _ _ _ _ (by simp)]
      simpa using hu
    · have h := there_new (w := (w.alloc (.cells #[.int .i64 kd, .bool bb, .int .i64 ni, .float .f64 f, .string tx, .string ty, .slice ai nI ci, .slice af nf cf] 27)).alloc (.cells #[.int .i64 0, .bool false, .int .i64 0, .float .f64 0, .string { data := #[] }, .string { data := #[] }, .slice none 0 0, .slice none 0 0] 27)) (Z := #[.int .i64 kd, .bool bb, .int .i64 ni, .float .f64 f, .string tx, .string ty, .slice none 0 0, .slice none 0 0]) (t := 27) (n := 8) rfl
      simpa using h
  have EW := hide eW
  have HH := hide (And.intro hI (And.intro hF (And.intro hl1 (And.intro hl2 (And.intro hlI hlF)))))
  have HK := hide (And.intro hni (And.intro hnf (And.intro hk1 (And.intro hk2 (And.intro hk3 hk4)))))
  have bI : nI ≤ 1256584717458 := by omega
  have bF : nf ≤ 1099511627776 := by omega
  clear eW hI hF hl1 hl2 hlI hlF hni hnf hk1 hk2 hk3 hk4 hci hcf hai haf
  go_enter Try.func52, Try.ntmps52
  go_wp2_with fail
  rw [← unhide EW]
  clear EW
  go_loopw [4] (fun vi wr => ∃ (k : Nat) (sl : Value) (G : List Nat), k ≤ nI ∧ vi = .int .i64 k ∧ Hid (Vars w kd bb ni f tx ty ai nI ci af nf cf sl (.slice none 0 0) wr) ∧ Hid (Grow OwC 27 8 wr (w.heap.size + 3) (its.list.take k) sl G)) (fun vi _ => nI - (intOf vi).toNat)
  case atStart => exact ⟨0, .slice none 0 0, [], Nat.zero_le _, rfl, hide hV0, hide (by rw [List.take_zero]; exact Grow.nil)⟩
  case round =>
    obtain ⟨k, sl, G, hk, rfl, hV, hG⟩ := hrel
    have x6 := (unhide hV).x6
    have x7 := (unhide hV).x7
    by_cases hlt : k < nI
    · have ki : (k : Int) < (nI : Int) := by omega
      obtain ⟨p, off, v, us, rfl, hg, hr, hv⟩ := VlsAt.get its _ nI (unhide HH).1 k hlt
      have hcop := hide (ihI v (List.mem_of_getElem? hg) (hsI.all v (List.mem_of_getElem? hg)) us)
      have hr' := hide (Row8.below hr (unhide hV).bel)
      have hv' := hide (VlC.below (unhide hV).bel v us hv)
      have iu := hide (show (Try.prog.info? 27).map (·.size) = some us.length by rw [hv.cells]; exact infoV)
      have Hg := hide hg
      clear hr hv hg
      go_wp2_with (first
        | refine wpList_load_mid (by rfl) 27 _ (by rfl) p (off + k * 8) (by rfl) us _ (unhide hr') Try.underlying27 (by rfl) (unhide iu) ?_)
      refine ((unhide hcop) wr (unhide hv')).mono ?_
      rintro e w1 ⟨ds, F, rfl, hO1, hnd1, hF1, b1, z1⟩
      obtain ⟨V, eV⟩ : ∃ V, V = (w1.alloc (.cells #[.int .i64 0, .bool false, .int .i64 0, .float .f64 0, .string { data := #[] }, .string { data := #[] }, .slice none 0 0, .slice none 0 0] 27)).setCells w1.heap.size 0 ds := ⟨_, rfl⟩
      have d8 := (OwC.read v ds F hO1).cells
      have d1 := (OwC.read v ds F hO1).one
      have th : (w1.alloc (.cells #[.int .i64 0, .bool false, .int .i64 0, .float .f64 0, .string { data := #[] }, .string { data := #[] }, .slice none 0 0, .slice none 0 0] 27)).there w1.heap.size 0 ds.toArray.size := there_new (by simp [d8])
      have b2 : Below w1.heap.size w1 V := by rw [eV]; exact below_setCells _ _ _ _ ((Below.refl _ _).alloc (Nat.le_refl _) _) (Nat.le_refl _)
      have hrV : V.rangeAt w1.heap.size 0 ds := by rw [eV]; exact World.rangeAt_setCells_same _ _ _ _ (by simpa using th)
      have s1 := b1.size
      have s2 := b2.size
      have sV := (unhide hV).siz
      have V2 := ((unhide hV).below (b1.mono sV)).below (b2.mono (by omega))
      have G2 := ((unhide hG).below agV b1).below agV b2
      have O2 : OwC V v ds F := OwC.agree v ds F (Agree.of_below b2 (fun b hb => (hF1 b hb).2)) hO1
      have z2 := z1.below b2 (fun b hb => (hF1 b hb).2)
      have hown := fun b (hb : sl.ownBlock = some b) => (let ⟨xss, hr, _⟩ := (unhide hG).row; (hr.lt b hb).2)
      have hr2 : ∀ b ∈ F, w.heap.size + 3 ≤ b ∧ b < V.heap.size ∧ b ∉ G ∧ sl.ownBlock ≠ some b := fun b hb => by
        have h1 := hF1 b hb
        refine ⟨by omega, by omega, fun h => ?_, fun h => ?_⟩
        · have := ((unhide hG).rng b h).2; omega
        · have := hown b h; omega
      have c6 : V.cell? ⟨w.heap.size + 1 + 1, 6, none⟩ = some sl := V2.row 6 _ rfl
      have hlen : (its.list.take k).length = k := by rw [List.length_take, (unhide HH).2.2.2.2.1]; omega
      obtain ⟨i0, z0', hi0, hz0, hs0, hb0, hc0⟩ := infoVz
      have i8 : (Try.prog.info? 27).map (·.size) = some ds.toArray.size := by simp [d8, infoV]
      have i8' : (Try.prog.info? 27).map (·.size) = some ds.length := by rw [d8]; exact infoV
      have hone : ∀ u ∈ ds, u.oneCell' = true := fun u hu => (Array.all_eq_true_iff_forall_mem.1 d1) u (by simpa using hu)
      have hby : ((its.list.take k).length + 1) * 112 ≤ 140737488355328 := by rw [hlen]; omega
      have hml : (its.list.take k).length + 1 ≤ maxLen := by rw [hlen]; unfold maxLen; omega
      have hbd := buildV (OwC.read v ds F hO1)
      have hBV : w.heap.size + 3 ≤ V.heap.size := by omega
      have A := hide (And.intro th (And.intro hrV (And.intro i8 (And.intro i8' (And.intro hone (And.intro hby (And.intro hml hbd)))))))
      have C := hide (And.intro hi0 (And.intro hz0 (And.intro hs0 (And.intro hb0 hc0))))
      have D := hide (And.intro V2 (And.intro G2 (And.intro O2 (And.intro z2 (And.intro hr2 hnd1)))))
      have EV := hide eV
      have EL := hide hlen
      clear th hrV i8 i8' hone hby hml hbd hi0 hz0 hs0 hb0 hc0 V2 G2 O2 z2 hr2 hnd1 eV hO1 d8 hF1 z1 hown hlen x6 x7 hr' hv' iu hcop b1 b2
      have dl : ds.length = 8 := by have := (unhide A).2.2.2.1; rw [infoV] at this; exact (Option.some.inj this).symm
      have DL := hide dl
      clear dl
      go_wp2_with (first
        | (refine wpList_store_mid (by rfl) 27 _ _ (by rfl) w1.heap.size 0 ds.toArray (by rfl) (by rfl) (unhide A).1 (unhide A).2.2.1 d1 ?_; rw [show (w1.alloc (.cells #[.int .i64 0, .bool false, .int .i64 0, .float .f64 0, .string { data := #[] }, .string { data := #[] }, .slice none 0 0, .slice none 0 0] 27)).setCells w1.heap.size 0 ds.toArray.toList = V from (unhide EV).symm])
        | refine wpList_load_mid (by rfl) 27 _ (by rfl) w1.heap.size 0 (by rfl) ds _ (unhide A).2.1 Try.underlying27 (by rfl) (unhide A).2.2.2.1 ?_
        | refine wpList_buildOne (by rfl) 24 _ (by rfl) (.agg ds.toArray) _ (by rfl) ((unhide A).2.2.2.2.2.2.2 V) ?_
        | (at_builtin; refine wp_grow agV (by rfl) _ _ (by rfl) Try.underlying24 (unhide C).1 (unhide C).2.1 (unhide C).2.2.1 (unhide C).2.2.2.1 (unhide C).2.2.2.2 (by omega) (w.heap.size + 3) (its.list.take k) sl G (by rfl) (unhide D).2.1 v ds F (unhide D).2.2.1 (unhide DL) (unhide A).2.2.2.2.1 (unhide D).2.2.2.2.2 (unhide D).2.2.2.2.1 (unhide D).2.2.2.1 V.heap.size rfl (by rfl) (unhide A).2.2.2.2.2.1 (unhide A).2.2.2.2.2.2.1 hBV ?_; intro sl' w4 g4 b4; obtain ⟨aj, nj, cj, rfl⟩ := g4.form; have V4 := (unhide D).1.below b4; have e6 : w4.cell? ⟨w.heap.size + 1 + 1, 6, none⟩ = some sl := V4.row 6 _ rfl; have f6 : w4.frozen? ⟨w.heap.size + 1 + 1, 6, none⟩ = false := (V4.may 6 (by omega)).2; have HV4 := hide V4; have HG4 := hide g4; clear V4 g4))
      refine ⟨⟨k + 1, .slice aj nj cj, G ++ F, by omega, by go_num, hide ((unhide HV4).put6 _), hide ?_⟩, by simp only [intOf]; omega⟩
      rw [List.take_add_one, unhide Hg]
      exact Grow.setCells agV (unhide HG4) (w.heap.size + 1 + 1) 6 [.slice aj nj cj] (by omega)
    · obtain rfl : k = nI := by omega
      have hG' := hide (show Grow OwC 27 8 wr (w.heap.size + 3) its.list sl G by have := unhide hG; rwa [List.take_of_length_le (Nat.le_of_eq (unhide HH).2.2.2.2.1)] at this)
      clear hG
      go_wp2_with fail
      have hM0 := (unhide hV).siz
      have hGM : ∀ b, (b ∈ G ∨ sl.ownBlock = some b) → b < wr.heap.size := fun b hb => by
        rcases hb with hb | hb
        · exact ((unhide hG').rng b hb).2
        · obtain ⟨xss, hr, _⟩ := (unhide hG').row
          exact (hr.lt b hb).2
      have HGM := hide hGM
      clear hGM x6 x7 hlt
      obtain ⟨M, eM⟩ : ∃ M, M = wr.heap.size := ⟨_, rfl⟩
      rw [← eM] at hM0 HGM
      go_loopw [6] (fun vi wr' => ∃ (q : Nat) (sm : Value) (H : List Nat), q ≤ nf ∧ vi = .int .i64 q ∧ Hid (Vars w kd bb ni f tx ty ai k ci af nf cf sl sm wr') ∧ Hid (Grow OwC 27 8 wr' (w.heap.size + 3) its.list sl G) ∧ Hid (Grow OwM 69 9 wr' M (fls.list.take q) sm H) ∧ M ≤ wr'.heap.size) (fun vi _ => nf - (intOf vi).toNat)
      case atStart => exact ⟨0, .slice none 0 0, [], Nat.zero_le _, rfl, hV, hG', hide (by rw [List.take_zero]; exact Grow.nil), Nat.le_of_eq eM⟩
      case round =>
        clear hV hG' eM hk
        obtain ⟨q, sm, H, hq, rfl, hV, hG', hH, hMs⟩ := hrel
        have x6 := (unhide hV).x6
        have x7 := (unhide hV).x7
        by_cases hlt : q < nf
        · have ki : (q : Int) < (nf : Int) := by omega
          obtain ⟨p, off, nm, v, us, rfl, hg, hn0, hnz, hr, hv⟩ := FlsAt.get fls _ nf (unhide HH).2.1 q hlt
          have hcop := hide (ihF (nm, v) (List.mem_of_getElem? hg) (hsF.all (nm, v) (List.mem_of_getElem? hg)) us)
          have hr' := hide (Row8.below hr (unhide hV).bel)
          have hv' := hide (VlC.below (unhide hV).bel v us hv)
          have iu := hide (show (Try.prog.info? 27).map (·.size) = some us.length by rw [hv.cells]; exact infoV)
          have hpl := World.block_lt_of_cell? w _ hn0
          have hn1 := hide (keepC (unhide hV).bel hpl hn0)
          have Hg := hide hg
          clear hr hv hg hn0
          go_wp2_with (first
            | refine wpList_load_mid (by rfl) 27 _ (by rfl) p (off + q * 9 + 1) (by rfl) us _ (unhide hr') Try.underlying27 (by rfl) (unhide iu) ?_)
          refine ((unhide hcop) wr (unhide hv')).mono ?_
          rintro e w1 ⟨ds, F, rfl, hO1, hnd1, hF1, b1, z1⟩
          obtain ⟨V, eV⟩ : ∃ V, V = (w1.alloc (.cells #[.int .i64 0, .bool false, .int .i64 0, .float .f64 0, .string { data := #[] }, .string { data := #[] }, .slice none 0 0, .slice none 0 0] 27)).setCells w1.heap.size 0 ds := ⟨_, rfl⟩
          have d8 := (OwC.read v ds F hO1).cells
          have d1 := (OwC.read v ds F hO1).one
          have th : (w1.alloc (.cells #[.int .i64 0, .bool false, .int .i64 0, .float .f64 0, .string { data := #[] }, .string { data := #[] }, .slice none 0 0, .slice none 0 0] 27)).there w1.heap.size 0 ds.toArray.size := there_new (by simp [d8])
          have b2 : Below w1.heap.size w1 V := by rw [eV]; exact below_setCells _ _ _ _ ((Below.refl _ _).alloc (Nat.le_refl _) _) (Nat.le_refl _)
          have hrV : V.rangeAt w1.heap.size 0 ds := by rw [eV]; exact World.rangeAt_setCells_same _ _ _ _ (by simpa using th)
          have sV1 : V.heap.size = w1.heap.size + 1 := by rw [eV, size_setCells]; simp
          have s1 := b1.size
          have sV := (unhide hV).siz
          have V2 := ((unhide hV).below (b1.mono sV)).below (b2.mono (by omega))
          have G2 := ((unhide hG').below agV b1).below agV b2
          have H2 := ((unhide hH).below agM b1).below agM b2
          have O2 : OwC V v ds F := OwC.agree v ds F (Agree.of_below b2 (fun b hb => (hF1 b hb).2)) hO1
          have z2 := z1.below b2 (fun b hb => (hF1 b hb).2)
          have hown := fun b (hb : sm.ownBlock = some b) => (let ⟨xss, hr, _⟩ := (unhide hH).row; (hr.lt b hb).2)
          have hr2 : ∀ b ∈ F, M ≤ b ∧ b < V.heap.size ∧ b ∉ H ∧ sm.ownBlock ≠ some b := fun b hb => by
            have h1 := hF1 b hb
            refine ⟨by omega, by omega, fun h => ?_, fun h => ?_⟩
            · have := ((unhide hH).rng b h).2; omega
            · have := hown b h; omega
          have hlen : (fls.list.take q).length = q := by rw [List.length_take, (unhide HH).2.2.2.2.2]; omega
          obtain ⟨i0, z0', hi0, hz0, hs0, hb0, hc0⟩ := infoMz
          have i8 : (Try.prog.info? 27).map (·.size) = some ds.toArray.size := by simp [d8, infoV]
          have hn2 := keepC b2 (by omega) (keepC b1 (by have := (unhide hV).bel.size; omega) (unhide hn1))
          have A := hide (And.intro th (And.intro hrV i8))
          have EV := hide eV
          have HV2 := hide V2
          clear eV hrV i8 th V2 x6 x7 hr' hv' iu hcop hn1
          go_wp2_with (first
            | (refine wpList_store_mid (by rfl) 27 _ _ (by rfl) w1.heap.size 0 ds.toArray (by rfl) (by rfl) (unhide A).1 (unhide A).2.2 d1 ?_; rw [show (w1.alloc (.cells #[.int .i64 0, .bool false, .int .i64 0, .float .f64 0, .string { data := #[] }, .string { data := #[] }, .slice none 0 0, .slice none 0 0] 27)).setCells w1.heap.size 0 ds.toArray.toList = V from (unhide EV).symm]))
          have hS0 : Below (w.heap.size + 1 + 1) V { V with drawn := V.drawn + 1 } ∧ ({ V with drawn := V.drawn + 1 } : World).rangeAt w1.heap.size 0 ds := ⟨(Below.refl _ _).drew, (unhide A).2.1⟩
          have y7 := (unhide HV2).x7
          have i8' : (Try.prog.info? 27).map (·.size) = some ds.length := by rw [d8]; exact infoV
          refine wp_region_noPanic ?_
          refine wp_region_held (S := fun w' => Below (w.heap.size + 1 + 1) V w' ∧ w'.rangeAt w1.heap.size 0 ds) mixed ?_
          refine wpAnyH_take (i := 0) (v := ?v1) rfl (by kernel_rfl) (by kernel_rfl) (by kernel_rfl) (fun _ _ _ h => h) (Or.inl ⟨by rfl, ?hy1⟩) hS0 ?_
          case hy1 => (intro w' hw';  go_simp; try with_reducible rfl)
          simp only [List.getElem_toArray, List.getElem_cons_zero, List.getElem_cons_succ, Act.put, List.setIfInBounds_toArray, List.set_cons_zero, List.set_cons_succ]
          refine wpAnyH_take (i := 2) (v := ?v2) rfl (by kernel_rfl) (by kernel_rfl) (by kernel_rfl) (fun _ _ _ h => h) (Or.inl ⟨by rfl, ?hy2⟩) hS0 ?_
          case hy2 => (intro w' hw'; have c7 := (hw'.1.cell (p := ⟨w.heap.size, 7, none⟩) (show w.heap.size < w.heap.size + 1 + 1 by omega)).trans y7; have cn := (hw'.1.cell (p := ⟨p, off + q * 9, none⟩) (show p < w.heap.size + 1 + 1 by omega)).trans hn2; go_simp; try with_reducible rfl)
          simp only [List.getElem_toArray, List.getElem_cons_zero, List.getElem_cons_succ, Act.put, List.setIfInBounds_toArray, List.set_cons_zero, List.set_cons_succ]
          refine wpAnyH_take (i := 3) (v := ?v3) rfl (by kernel_rfl) (by kernel_rfl) (by kernel_rfl) (fun _ _ _ h => h) (Or.inl ⟨by rfl, ?hy3⟩) hS0 ?_
          case hy3 => (intro w' hw'; have c7 := (hw'.1.cell (p := ⟨w.heap.size, 7, none⟩) (show w.heap.size < w.heap.size + 1 + 1 by omega)).trans y7; have cn := (hw'.1.cell (p := ⟨p, off + q * 9, none⟩) (show p < w.heap.size + 1 + 1 by omega)).trans hn2; go_simp; try with_reducible rfl)
          simp only [List.getElem_toArray, List.getElem_cons_zero, List.getElem_cons_succ, Act.put, List.setIfInBounds_toArray, List.set_cons_zero, List.set_cons_succ]
          refine wpAnyH_take (i := 4) (v := ?v4) rfl (by kernel_rfl) (by kernel_rfl) (by kernel_rfl) (fun _ _ _ h => h) (Or.inl ⟨by rfl, ?hy4⟩) hS0 ?_
          case hy4 => (intro w' hw'; have c7 := (hw'.1.cell (p := ⟨w.heap.size, 7, none⟩) (show w.heap.size < w.heap.size + 1 + 1 by omega)).trans y7; have cn := (hw'.1.cell (p := ⟨p, off + q * 9, none⟩) (show p < w.heap.size + 1 + 1 by omega)).trans hn2; go_simp; try with_reducible rfl)
          simp only [List.getElem_toArray, List.getElem_cons_zero, List.getElem_cons_succ, Act.put, List.setIfInBounds_toArray, List.set_cons_zero, List.set_cons_succ]
          refine wpAnyH_take (i := 5) (v := ?v5) rfl (by kernel_rfl) (by kernel_rfl) (by kernel_rfl) (fun _ _ _ h => h) (Or.inl ⟨by rfl, ?hy5⟩) hS0 ?_
          case hy5 => (intro w' hw'; have c7 := (hw'.1.cell (p := ⟨w.heap.size, 7, none⟩) (show w.heap.size < w.heap.size + 1 + 1 by omega)).trans y7; have cn := (hw'.1.cell (p := ⟨p, off + q * 9, none⟩) (show p < w.heap.size + 1 + 1 by omega)).trans hn2; go_simp; try with_reducible rfl)
          simp only [List.getElem_toArray, List.getElem_cons_zero, List.getElem_cons_succ, Act.put, List.setIfInBounds_toArray, List.set_cons_zero, List.set_cons_succ]
          refine wpAnyH_take (i := 6) (v := ?v6) rfl (by kernel_rfl) (by kernel_rfl) (by kernel_rfl) (fun _ _ _ h => h) (Or.inl ⟨by rfl, ?hy6⟩) hS0 ?_
          case hy6 => (intro w' hw'; have c7 := (hw'.1.cell (p := ⟨w.heap.size, 7, none⟩) (show w.heap.size < w.heap.size + 1 + 1 by omega)).trans y7; have cn := (hw'.1.cell (p := ⟨p, off + q * 9, none⟩) (show p < w.heap.size + 1 + 1 by omega)).trans hn2; go_simp; try with_reducible rfl)
          simp only [List.getElem_toArray, List.getElem_cons_zero, List.getElem_cons_succ, Act.put, List.setIfInBounds_toArray, List.set_cons_zero, List.set_cons_succ]
          refine wpAnyH_take (i := 7) (v := ?v7) rfl (by kernel_rfl) (by kernel_rfl) (by kernel_rfl) (fun _ _ _ h => h) (Or.inl ⟨by rfl, ?hy7⟩) hS0 ?_
          case hy7 => (intro w' hw'; have c7 := (hw'.1.cell (p := ⟨w.heap.size, 7, none⟩) (show w.heap.size < w.heap.size + 1 + 1 by omega)).trans y7; have cn := (hw'.1.cell (p := ⟨p, off + q * 9, none⟩) (show p < w.heap.size + 1 + 1 by omega)).trans hn2; go_simp; try with_reducible rfl)
          simp only [List.getElem_toArray, List.getElem_cons_zero, List.getElem_cons_succ, Act.put, List.setIfInBounds_toArray, List.set_cons_zero, List.set_cons_succ]
          refine wpAnyH_take (i := 8) rfl (by kernel_rfl) (by kernel_rfl) (by kernel_rfl) (fun _ _ _ h => h) (yieldsIf_load_mid (by rfl) 27 _ (by rfl) w1.heap.size 0 (by rfl) ds _ (fun w' hw' => hw'.2) Try.underlying27 (by rfl) i8') hS0 ?_
          simp only [List.getElem_toArray, List.getElem_cons_zero, List.getElem_cons_succ, Act.put, List.setIfInBounds_toArray, List.set_cons_zero, List.set_cons_succ]
          refine rgn.take (i := 9) _ (.agg (Value.string nm :: ds).toArray) rfl (by kernel_rfl) (by kernel_rfl) (by kernel_rfl) (fun _ _ _ h => h) (by rfl) hS0 (fun w' hw' => by
            have hO4 := hO1
            clear hO1 d8 d1 A O2 G2 H2 hr2 hS0 i8' hw' EV sV1
            obtain ⟨kd, bb, ni, f, tx, ty, its, fls⟩ := v
            unfold OwC at hO4
            obtain ⟨ai, nI, ci, af, nf, cf, Fi, Ff, rfl, -⟩ := hO4
            go_simp) ?_
          simp only [List.getElem_toArray, List.getElem_cons_zero, List.getElem_cons_succ, Act.put, List.setIfInBounds_toArray, List.set_cons_zero, List.set_cons_succ]
          have hone : ∀ u ∈ (Value.string nm :: ds), u.oneCell' = true := fun u hu => (Array.all_eq_true_iff_forall_mem.1 (one9 nm (OwC.read v ds F hO1))) u (by simpa using hu)
          have hby : ((fls.list.take q).length + 1) * 128 ≤ 140737488355328 := by rw [hlen]; omega
          have hml : (fls.list.take q).length + 1 ≤ maxLen := by rw [hlen]; unfold maxLen; omega
          have hbd := buildM nm (OwC.read v ds F hO1) ({ V with drawn := V.drawn + 1 } : World)
          have hOM : OwM ({ V with drawn := V.drawn + 1 } : World) (nm, v) (Value.string nm :: ds) F := ⟨ds, rfl, hnz, OwC.agree v ds F (show Agree F V ({ V with drawn := V.drawn + 1 } : World) from fun b _ j => rfl) O2⟩
          have hH3 : Grow OwM 69 9 ({ V with drawn := V.drawn + 1 } : World) M (fls.list.take q) sm H := H2.keep agM (Nat.le_refl _) (fun b _ _ _ => rfl)
          have hMV : M ≤ V.heap.size := by omega
          have c7m : V.cell? ⟨w.heap.size + 1 + 1, 7, none⟩ = some sm := (unhide HV2).row 7 _ rfl
          have hl9 : (Value.string nm :: ds).length = 9 := by simp [d8]
          obtain ⟨X, eX⟩ : ∃ X, X = ({ V with drawn := V.drawn + 1 } : World).alloc (.cells (Value.string nm :: ds).toArray 69) := ⟨_, rfl⟩
          have hSX : Below (w.heap.size + 1 + 1) V X ∧ X.rangeAt w1.heap.size 0 ds := by
            rw [eX]
            refine ⟨hS0.1.alloc (show w.heap.size + 1 + 1 ≤ V.heap.size by omega) _, World.rangeAt_alloc hS0.2 _⟩
          have bX : Below V.heap.size V X := by rw [eX]; exact (Below.refl V.heap.size V).drew.alloc (Nat.le_refl _) _
          have c7x := keepC bX (show w.heap.size + 1 + 1 < V.heap.size by omega) c7m
          refine rgn.two (i := 1) (j := 10) _ _ rfl rfl (by kernel_rfl) (by rfl) (by rfl) ?_ ?_
          · simp only [List.getElem_toArray, List.getElem_cons_zero, List.getElem_cons_succ, Act.put, List.setIfInBounds_toArray, List.set_cons_zero, List.set_cons_succ]
            clear c7x
            go_wp2_with fail
            refine ⟨hS0, ?_⟩
            refine rgn.one (i := 10) _ rfl (by kernel_rfl) (by rfl) ?_
            simp only [List.getElem_toArray, List.getElem_cons_zero, List.getElem_cons_succ, Act.put, List.setIfInBounds_toArray, List.set_cons_zero, List.set_cons_succ]
            refine wpO_buildOne 25 _ (by rfl) (.agg (Value.string nm :: ds).toArray) _ (by rfl) hbd ?_
            rw [← eX]
            refine ⟨hSX, ?_⟩
            simp only [List.getElem_toArray, List.getElem_cons_zero, List.getElem_cons_succ, Act.put, List.setIfInBounds_toArray, List.set_cons_zero, List.set_cons_succ]
            refine rgn.one (i := 11) _ rfl (by kernel_rfl) (by rfl) ?_
            simp only [List.getElem_toArray, List.getElem_cons_zero, List.getElem_cons_succ, Act.put, List.setIfInBounds_toArray, List.set_cons_zero, List.set_cons_succ]
            rw [eX]
            refine wpO_grow agM _ _ (by rfl) Try.underlying25 hi0 hz0 hs0 hb0 hc0 (by omega) M (fls.list.take q) sm H (by rfl) hH3 (nm, v) (Value.string nm :: ds) F hOM hl9 hone hnd1 hr2 (fun b hb j => z2 b hb j) V.heap.size rfl (by rfl) hby hml hMV ?_
            intro sl' w4 g4 b4 far
            obtain ⟨aj, nj, cj, rfl⟩ := g4.form
            have b4' : Below M V w4 := (Below.refl _ _).drew.trans b4
            have hS4 : Below (w.heap.size + 1 + 1) V w4 ∧ w4.rangeAt w1.heap.size 0 ds := ⟨b4'.mono (by omega), fun j u hu => by
              rw [cell_blk (far w1.heap.size (show w1.heap.size < V.heap.size by omega) (fun h => by have := hown _ h; omega)) (0 + j)]
              exact (unhide A).2.1 j u hu⟩
            have V4 := (unhide HV2).below (b4'.mono hM0)
            have e7 : w4.cell? ⟨w.heap.size + 1 + 1, 7, none⟩ = some sm := V4.row 7 _ rfl
            have f7 : w4.frozen? ⟨w.heap.size + 1 + 1, 7, none⟩ = false := (V4.may 7 (by omega)).2
            refine ⟨hS4, ?_⟩
            have hS0 := hS4
            simp only [List.getElem_toArray, List.getElem_cons_zero, List.getElem_cons_succ, Act.put, List.setIfInBounds_toArray, List.set_cons_zero, List.set_cons_succ]
            refine rgn.take (i := 12) _ (.pointer (some ⟨w.heap.size + 1 + 1, 7, none⟩)) rfl (by kernel_rfl) (by kernel_rfl) (by kernel_rfl) (fun _ _ _ h => h) (by rfl) hS0 (fun w' hw' => by go_simp) ?_
            simp only [List.getElem_toArray, List.getElem_cons_zero, List.getElem_cons_succ, Act.put, List.setIfInBounds_toArray, List.set_cons_zero, List.set_cons_succ]
            refine rgn.one (i := 13) _ rfl (by kernel_rfl) (by rfl) ?_
            simp only [List.getElem_toArray, List.getElem_cons_zero, List.getElem_cons_succ, Act.put, List.setIfInBounds_toArray, List.set_cons_zero, List.set_cons_succ]
            have V5 := V4.put7 (.slice aj nj cj)
            have G5 : Grow OwC 27 8 (w4.setCells (w.heap.size + 1 + 1) 7 [.slice aj nj cj]) (w.heap.size + 3) its.list sl G := Grow.setCells agV (G2.keep agV b4'.size (fun b hb _ hm => b4'.block b (unhide HGM b hm))) _ _ _ (by omega)
            have H5 : Grow OwM 69 9 (w4.setCells (w.heap.size + 1 + 1) 7 [.slice aj nj cj]) M (fls.list.take q ++ [(nm, v)]) (.slice aj nj cj) (H ++ F) := Grow.setCells agM g4 _ _ _ (by omega)
            have hS5 : Below (w.heap.size + 1 + 1) V (w4.setCells (w.heap.size + 1 + 1) 7 [.slice aj nj cj]) ∧ (w4.setCells (w.heap.size + 1 + 1) 7 [.slice aj nj cj]).rangeAt w1.heap.size 0 ds := ⟨below_setCells _ _ _ _ hS4.1 (Nat.le_refl _), fun j u hu => by
              rw [World.cell?_setCells_out _ _ _ _ _ (fun e _ => by have e : w1.heap.size = w.heap.size + 1 + 1 := e; omega)]
              exact hS4.2 j u hu⟩
            have hs5 : M ≤ (w4.setCells (w.heap.size + 1 + 1) 7 [.slice aj nj cj]).heap.size := by rw [size_setCells]; exact Nat.le_trans hMV b4'.size
            have HF := hide (And.intro V5 (And.intro G5 (And.intro H5 (And.intro hS5 hs5))))
            clear V5 G5 H5 hS5 hs5 V4 hS4 hS0 g4 b4 b4' far hSX eX
            go_wp2_with fail
            refine ⟨(unhide HF).2.2.2.1, ?_⟩
            refine wpAnyH_done (by kernel_rfl) ?_ _
            refine NoPanic.normal ?_
            go_wp2
            exact ⟨⟨q + 1, .slice aj nj cj, H ++ F, by omega, by go_num, hide (unhide HF).1, hide (unhide HF).2.1, hide (by rw [List.take_add_one, unhide Hg]; exact (unhide HF).2.2.1), (unhide HF).2.2.2.2⟩, by simp only [intOf]; omega⟩
          · simp only [List.getElem_toArray, List.getElem_cons_zero, List.getElem_cons_succ, Act.put, List.setIfInBounds_toArray, List.set_cons_zero, List.set_cons_succ]
            refine wpO_buildOne 25 _ (by rfl) (.agg (Value.string nm :: ds).toArray) _ (by rfl) hbd ?_
            rw [← eX]
            refine ⟨hSX, ?_⟩
            simp only [List.getElem_toArray, List.getElem_cons_zero, List.getElem_cons_succ, Act.put, List.setIfInBounds_toArray, List.set_cons_zero, List.set_cons_succ]
            refine rgn.one (i := 1) _ rfl (by kernel_rfl) (by rfl) ?_
            simp only [List.getElem_toArray, List.getElem_cons_zero, List.getElem_cons_succ, Act.put, List.setIfInBounds_toArray, List.set_cons_zero, List.set_cons_succ]
            refine wpO_load1 25 _ (by rfl) _ sm (by rfl) (loadSM X (w.heap.size + 1 + 1) 7 sm c7x) ?_
            refine ⟨hSX, ?_⟩
            simp only [List.getElem_toArray, List.getElem_cons_zero, List.getElem_cons_succ, Act.put, List.setIfInBounds_toArray, List.set_cons_zero, List.set_cons_succ]
            refine rgn.one (i := 11) _ rfl (by kernel_rfl) (by rfl) ?_
            simp only [List.getElem_toArray, List.getElem_cons_zero, List.getElem_cons_succ, Act.put, List.setIfInBounds_toArray, List.set_cons_zero, List.set_cons_succ]
            rw [eX]
            refine wpO_grow agM _ _ (by rfl) Try.underlying25 hi0 hz0 hs0 hb0 hc0 (by omega) M (fls.list.take q) sm H (by rfl) hH3 (nm, v) (Value.string nm :: ds) F hOM hl9 hone hnd1 hr2 (fun b hb j => z2 b hb j) V.heap.size rfl (by rfl) hby hml hMV ?_
            intro sl' w4 g4 b4 far
            obtain ⟨aj, nj, cj, rfl⟩ := g4.form
            have b4' : Below M V w4 := (Below.refl _ _).drew.trans b4
            have hS4 : Below (w.heap.size + 1 + 1) V w4 ∧ w4.rangeAt w1.heap.size 0 ds := ⟨b4'.mono (by omega), fun j u hu => by
              rw [cell_blk (far w1.heap.size (show w1.heap.size < V.heap.size by omega) (fun h => by have := hown _ h; omega)) (0 + j)]
              exact (unhide A).2.1 j u hu⟩
            have V4 := (unhide HV2).below (b4'.mono hM0)
            have e7 : w4.cell? ⟨w.heap.size + 1 + 1, 7, none⟩ = some sm := V4.row 7 _ rfl
            have f7 : w4.frozen? ⟨w.heap.size + 1 + 1, 7, none⟩ = false := (V4.may 7 (by omega)).2
            refine ⟨hS4, ?_⟩
            have hS0 := hS4
            simp only [List.getElem_toArray, List.getElem_cons_zero, List.getElem_cons_succ, Act.put, List.setIfInBounds_toArray, List.set_cons_zero, List.set_cons_succ]
            refine rgn.take (i := 12) _ (.pointer (some ⟨w.heap.size + 1 + 1, 7, none⟩)) rfl (by kernel_rfl) (by kernel_rfl) (by kernel_rfl) (fun _ _ _ h => h) (by rfl) hS0 (fun w' hw' => by go_simp) ?_
            simp only [List.getElem_toArray, List.getElem_cons_zero, List.getElem_cons_succ, Act.put, List.setIfInBounds_toArray, List.set_cons_zero, List.set_cons_succ]
            refine rgn.one (i := 13) _ rfl (by kernel_rfl) (by rfl) ?_
            simp only [List.getElem_toArray, List.getElem_cons_zero, List.getElem_cons_succ, Act.put, List.setIfInBounds_toArray, List.set_cons_zero, List.set_cons_succ]
            have V5 := V4.put7 (.slice aj nj cj)
            have G5 : Grow OwC 27 8 (w4.setCells (w.heap.size + 1 + 1) 7 [.slice aj nj cj]) (w.heap.size + 3) its.list sl G := Grow.setCells agV (G2.keep agV b4'.size (fun b hb _ hm => b4'.block b (unhide HGM b hm))) _ _ _ (by omega)
            have H5 : Grow OwM 69 9 (w4.setCells (w.heap.size + 1 + 1) 7 [.slice aj nj cj]) M (fls.list.take q ++ [(nm, v)]) (.slice aj nj cj) (H ++ F) := Grow.setCells agM g4 _ _ _ (by omega)
            have hS5 : Below (w.heap.size + 1 + 1) V (w4.setCells (w.heap.size + 1 + 1) 7 [.slice aj nj cj]) ∧ (w4.setCells (w.heap.size + 1 + 1) 7 [.slice aj nj cj]).rangeAt w1.heap.size 0 ds := ⟨below_setCells _ _ _ _ hS4.1 (Nat.le_refl _), fun j u hu => by
              rw [World.cell?_setCells_out _ _ _ _ _ (fun e _ => by have e : w1.heap.size = w.heap.size + 1 + 1 := e; omega)]
              exact hS4.2 j u hu⟩
            have hs5 : M ≤ (w4.setCells (w.heap.size + 1 + 1) 7 [.slice aj nj cj]).heap.size := by rw [size_setCells]; exact Nat.le_trans hMV b4'.size
            have HF := hide (And.intro V5 (And.intro G5 (And.intro H5 (And.intro hS5 hs5))))
            clear V5 G5 H5 hS5 hs5 V4 hS4 hS0 g4 b4 b4' far hSX eX
            go_wp2_with fail
            refine ⟨(unhide HF).2.2.2.1, ?_⟩
            refine wpAnyH_done (by kernel_rfl) ?_ _
            refine NoPanic.normal ?_
            go_wp2
            exact ⟨⟨q + 1, .slice aj nj cj, H ++ F, by omega, by go_num, hide (unhide HF).1, hide (unhide HF).2.1, hide (by rw [List.take_add_one, unhide Hg]; exact (unhide HF).2.2.1), (unhide HF).2.2.2.2⟩, by simp only [intOf]; omega⟩
        · obtain rfl : q = nf := by omega
          have hH' := hide (show Grow OwM 69 9 wr M fls.list sm H by have := unhide hH; rwa [List.take_of_length_le (Nat.le_of_eq (unhide HH).2.2.2.2.2)] at this)
          clear hH
          obtain ⟨L, eL⟩ : ∃ L : List Value, L = [.int .i64 kd, .bool bb, .int .i64 ni, .float .f64 f, .string tx, .string ty, sl, sm] := ⟨_, rfl⟩
          have hrL : wr.rangeAt (w.heap.size + 1 + 1) 0 L := by rw [eL]; exact (unhide hV).row
          have hL8 : L.length = 8 := by rw [eL]; rfl
          obtain ⟨aj, nj, cj, rfl⟩ := (unhide hG').form
          obtain ⟨ag, ng, cg, rfl⟩ := (unhide hH').form
          have ho8 : L.toArray.all (·.oneCell') = true := by rw [eL]; simp [Value.oneCell']
          have iL : (Try.prog.info? 27).map (·.size) = some L.length := by rw [hL8]; exact infoV
          have iL' : (Try.prog.info? 27).map (·.size) = some L.toArray.size := by simp [hL8, infoV]
          have hT : wr.there (w.heap.size + 1) 0 L.toArray.size := by rw [show L.toArray.size = 8 by simp [hL8]]; exact (unhide hV).res
          have A := hide (And.intro hrL (And.intro iL (And.intro iL' (And.intro hT (And.intro hL8 eL)))))
          clear hrL iL iL' hT hL8 eL
          go_wp2_with (first
            | refine wpList_load_mid (by rfl) 27 _ (by rfl) (w.heap.size + 1 + 1) 0 (by rfl) L _ (unhide A).1 Try.underlying27 (by rfl) (unhide A).2.1 ?_
            | refine wpList_store_mid (by rfl) 27 _ _ (by rfl) (w.heap.size + 1) 0 L.toArray (by rfl) (by rfl) (unhide A).2.2.2.1 (unhide A).2.2.1 ho8 ?_)
          obtain ⟨hrL, iL, iL', hT, hL8, eL⟩ := unhide A
          have V9 := unhide hV
          have hr9 : (wr.setCells (w.heap.size + 1) 0 L).rangeAt (w.heap.size + 1) 0 L := World.rangeAt_setCells_same _ _ _ _ hT
          refine bodyPost_ret (rgn.result_row rfl _ _ (w.heap.size + 1) 0 L _ rfl hr9 Try.underlying27 rfl iL) rfl ?_
          have G9 := Grow.setCells agV (unhide hG') (w.heap.size + 1) 0 L (by omega)
          have H9 := Grow.setCells agM (unhide hH') (w.heap.size + 1) 0 L (by omega)
          have hG6 := unhide HGM
          obtain ⟨aj', cj', Fi, e6, hOI, ndI, rnI, fzI, q1, q2, q3⟩ := G9.parts
          obtain ⟨ag', cg', Ff, e7, hOF, ndF, rnF, fzF, r1, r2, r3⟩ := H9.parts
          simp only [Value.slice.injEq] at e6 e7
          obtain ⟨rfl, rfl, rfl⟩ := e6
          obtain ⟨rfl, rfl, rfl⟩ := e7
          have hfi : ∀ b ∈ Fi, b < M := fun b hb => by
            rcases hOI with ⟨_, _, _, rfl⟩ | ⟨p, xss, hp, rfl, _⟩
            · simp at hb
            · rcases List.mem_cons.1 hb with rfl | hb
              · exact hG6 _ (.inr (by rw [hp]; rfl))
              · exact hG6 b (.inl hb)
          have hsz9 := size_setCells (w.heap.size + 1) L 0 wr
          obtain ⟨_, _, hk1, hk2, hk3, hk4⟩ := unhide HK
          have hlI := (unhide HH).2.2.2.2.1
          have hlF := (unhide HH).2.2.2.2.2
          rw [hlI] at eL q1 hOI
          rw [hlF] at eL r1 hOF
          refine ⟨L, rfl, Fi ++ Ff, ?_, ?_, ?_, below_setCells _ _ _ _ V9.bel (by omega), fzI.app fzF⟩
          · unfold OwC
            refine ⟨_, _, _, _, _, _, Fi, Ff, eL, ?_, ?_, q1, r1, q2, r2, hk1, hk2, hk3, hk4, q3, r3, rfl⟩
            · rcases hOI with ⟨h1, h2, h3, h4⟩ | ⟨p, xss, hp, rfl, hl, hc⟩
              · exact .inl ⟨h1, by rw [← Vls.of_list its, h2]; rfl, h3, h4⟩
              · refine .inr ⟨p, G, hp, rfl, ?_⟩
                have := OwL.insV p 0 hl hc
                rwa [Vls.of_list, hlI] at this
            · rcases hOF with ⟨h1, h2, h3, h4⟩ | ⟨p, xss, hp, rfl, hl, hc⟩
              · exact .inl ⟨h1, by rw [← Fls.of_list fls, h2]; rfl, h3, h4⟩
              · refine .inr ⟨p, H, hp, rfl, ?_⟩
                have := OwL.insM p 0 hl hc
                rwa [Fls.of_list, hlF] at this
          · rw [List.nodup_append]
            exact ⟨ndI, ndF, fun x hx y hy e => by have h1 := hfi x hx; have h2 := (rnF y hy).1; omega⟩
          · intro b hb
            rcases List.mem_append.1 hb with h | h
            · have := rnI b h; omega
            · have := rnF b h; omega
end Go.Proofs.Ythpcpminikmcbaa.vl
namespace Go.Proofs.Ythpcpminikmcbaa.vl
open Go.ChangeShapes Go.WideShapes Go.ChangeAt Go.RowKit
open stp (St Pth St3)
set_option linter.unusedVariables false
set_option linter.unusedSimpArgs false
end Go.Proofs.Ythpcpminikmcbaa.vl
