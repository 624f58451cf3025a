import Derived.Test.YtjlafneklcfgoabVlS1
namespace Go.Proofs.Ytjlafneklcfgoab.vl
open Go.ChangeShapes Go.WideShapes Go.ChangeAt Go.RowKit
open stp (St Pth St3)
set_option linter.unusedVariables false
set_option linter.unusedSimpArgs false
/-- two worlds that agree on these blocks but for eight cells -/
def AgreeBut (F : List Nat) (b o : Nat) (w w' : World) : Prop := ∀ c ∈ F, ∀ j, (c ≠ b ∨ j < o ∨ o + 8 ≤ j) → w'.cell? ⟨c, j, none⟩ = w.cell? ⟨c, j, none⟩
theorem AgreeBut.agree {F G : List Nat} {b o : Nat} {w w' : World} (h : AgreeBut F b o w w') (hs : ∀ c ∈ G, c ∈ F) (hb : b ∉ G) : Agree G w w' := fun c hc j => h c (hs c hc) j (.inl fun e => hb (e ▸ hc))
/-- one child of a value that is owned, and the value around it -/
theorem OwC.hole {w : World} {v : Vl} {cs : List Value} {F : List Nat} {s : St} {i b o : Nat} (h : OwC w v cs F) (hn : F.Nodup) (hi : chI v s = some i) (hl : Loc cs s i b o) :
    ∃ u us Fu Gr, getS v s = some u ∧ Row8 w b o us ∧ OwC w u us Fu ∧ Fu.Nodup ∧ (∀ c ∈ Fu, c ∈ F ∧ c ∉ Gr) ∧ (∀ c ∈ Gr, c ∈ F) ∧ b ∈ Gr ∧ ∀ w' x ds, AgreeBut Gr b o w w' → Row8 w' b o ds → VlC w' x ds → VlC w' (setS v s i x) cs := by
  obtain ⟨kd, bb, ni, f, tx, ty, its, fls⟩ := v
  have hg : getS (.mk kd bb ni f tx ty its fls) s = if s.it = true then its.list[i]? else (fls.list[i]?).map (·.2) := by simp only [getS, hi]
  have hset : ∀ x, setS (.mk kd bb ni f tx ty its fls) s i x = if s.it = true then .mk kd bb ni f tx ty (Vls.of (its.list.set i x)) fls else .mk kd bb ni f tx ty its (Fls.of (fls.list.modify i fun q => (q.1, x))) := fun x => rfl
  rw [chI_mk] at hi
  unfold OwC at h
  obtain ⟨ai, nI, ci, af, nf, cf, Fi, Ff, rfl, hI, hF, hni, hnf, hai, haf, hk1, hk2, hk3, hk4, hci, hcf, rfl⟩ := h
  rw [List.nodup_append] at hn
  obtain ⟨n1, n2, n3⟩ := hn
  obtain ⟨p, off, n, c, hl⟩ := hl
  by_cases ht : s.it = true
  · rw [if_pos ht] at hi hl hg
    obtain ⟨h6, rfl, rfl⟩ := hl
    simp at h6
    obtain ⟨rfl, rfl, rfl⟩ := h6
    by_cases hc : kd = 5 ∧ 0 ≤ s.ix ∧ s.ix < its.list.length
    · rw [if_pos hc] at hi
      obtain rfl := Option.some.inj hi
      rcases hI with ⟨h, _⟩ | ⟨p', G, e, rfl, hI⟩
      · cases h
      · simp only [Option.some.injEq, Addr.mk.injEq, and_true] at e
        obtain ⟨rfl, rfl⟩ := e
        have hlen := VlsAt.len its _ _ (OwsIn.read _ _ _ _ _ hI)
        rw [List.nodup_cons] at n1
        obtain ⟨u, us, Gi, Gr, g1, g2, g3, g4, g5, g6, g7⟩ := OwsIn.hole its b 0 nI G hI n1.2 s.ix.toNat (by omega)
        refine ⟨u, us, Gi, b :: (Gr ++ Ff), hg.trans g1, g2, g3, g4, fun x hx => ⟨?_, ?_⟩, fun x hx => ?_, List.mem_cons_self .., ?_⟩
        · exact List.mem_append_left _ (List.mem_cons_of_mem _ (g5 x hx).1)
        · intro hx'
          rcases List.mem_cons.1 hx' with rfl | hx'
          · exact n1.1 (g5 _ hx).1
          · rcases List.mem_append.1 hx' with hx' | hx'
            · exact (g5 x hx).2 hx'
            · exact n3 x (List.mem_cons_of_mem _ (g5 x hx).1) x hx' rfl
        · rcases List.mem_cons.1 hx with rfl | hx
          · exact List.mem_append_left _ (List.mem_cons_self ..)
          · rcases List.mem_append.1 hx with hx | hx
            · exact List.mem_append_left _ (List.mem_cons_of_mem _ (g6 x hx))
            · exact List.mem_append_right _ hx
        · intro w' x ds ha hr hx
          have a1 : Agree Gr w w' := ha.agree (fun c hc => List.mem_cons_of_mem _ (List.mem_append_left _ hc)) (fun h => n1.1 (g6 _ h))
          have a2 : Agree Ff w w' := ha.agree (fun c hc => List.mem_cons_of_mem _ (List.mem_append_right _ hc)) (fun h => n3 b (List.mem_cons_self ..) b h rfl)
          have hV := g7 w' x ds a1 (fun j hj => ha b (List.mem_cons_self ..) j (.inr hj)) hr hx
          rw [hset, if_pos ht]
          unfold VlC
          refine ⟨_, nI, ci, af, nf, cf, rfl, hV, ?_, hni, hnf, hai, haf, hk1, hk2, hk3, hk4, hci, hcf⟩
          rcases hF with ⟨rfl, rfl, rfl, _⟩ | ⟨p', G', rfl, rfl, hF⟩
          · unfold FlsAt; rfl
          · exact OwfIn.read _ _ _ _ _ (OwfIn.agree fls p' 0 nf G' a2 hF)
    · rw [if_neg hc] at hi
      cases hi
  · rw [if_neg ht] at hi hl hg
    obtain ⟨h7, rfl, rfl⟩ := hl
    simp at h7
    obtain ⟨rfl, rfl, rfl⟩ := h7
    by_cases hc : kd = 6
    · rw [if_pos hc] at hi
      rcases hF with ⟨h, _⟩ | ⟨p', G, e, rfl, hF⟩
      · cases h
      · simp only [Option.some.injEq, Addr.mk.injEq, and_true] at e
        obtain ⟨rfl, rfl⟩ := e
        have hlen := FlsAt.len fls _ _ (OwfIn.read _ _ _ _ _ hF)
        rw [List.nodup_cons] at n2
        obtain ⟨q, hq, _⟩ := findIdx_get hi
        obtain ⟨nm, u, us, Gi, Gr, g1, g2, g3, g4, g5, g6, g7⟩ := OwfIn.hole fls b 0 nf G hF n2.2 i (by rw [← hlen]; exact (List.getElem?_eq_some_iff.1 hq).1)
        refine ⟨u, us, Gi, b :: (Gr ++ Fi), hg.trans (by rw [g1]; rfl), g2, g3, g4, fun x hx => ⟨?_, ?_⟩, fun x hx => ?_, List.mem_cons_self .., ?_⟩
        · exact List.mem_append_right _ (List.mem_cons_of_mem _ (g5 x hx).1)
        · intro hx'
          rcases List.mem_cons.1 hx' with rfl | hx'
          · exact n2.1 (g5 _ hx).1
          · rcases List.mem_append.1 hx' with hx' | hx'
            · exact (g5 x hx).2 hx'
            · exact n3 x hx' x (List.mem_cons_of_mem _ (g5 x hx).1) rfl
        · rcases List.mem_cons.1 hx with rfl | hx
          · exact List.mem_append_right _ (List.mem_cons_self ..)
          · rcases List.mem_append.1 hx with hx | hx
            · exact List.mem_append_right _ (List.mem_cons_of_mem _ (g6 x hx))
            · exact List.mem_append_left _ hx
        · intro w' x ds ha hr hx
          have a1 : Agree Gr w w' := ha.agree (fun c hc => List.mem_cons_of_mem _ (List.mem_append_left _ hc)) (fun h => n2.1 (g6 _ h))
          have a2 : Agree Fi w w' := ha.agree (fun c hc => List.mem_cons_of_mem _ (List.mem_append_right _ hc)) (fun h => n3 b h b (List.mem_cons_self ..) rfl)
          have hV := g7 w' x ds a1 (fun j hj => ha b (List.mem_cons_self ..) j (.inr hj)) hr hx
          rw [hset, if_neg ht]
          unfold VlC
          refine ⟨ai, nI, ci, _, nf, cf, rfl, ?_, hV, hni, hnf, hai, haf, hk1, hk2, hk3, hk4, hci, hcf⟩
          rcases hI with ⟨rfl, rfl, rfl, _⟩ | ⟨p', G', rfl, rfl, hI⟩
          · unfold VlsAt; rfl
          · exact OwsIn.read _ _ _ _ _ (OwsIn.agree its p' 0 nI G' a2 hI)
    · rw [if_neg hc] at hi
      cases hi
/-- the way down from a value of the call's own: where it stands, and what a write there makes of the whole -/
structure Way (W : World) (lo b0 : Nat) (v : Vl) (ss : List St) (k b o : Nat) (u : Vl) (us : List Value) : Prop where
  got : getP v (ss.take k) = some u
  row : Row8 W b o us
  ctx : ∃ Fu G, OwC W u us Fu ∧ Fu.Nodup ∧ (∀ c ∈ Fu, c ≠ b0 ∧ c ∉ G) ∧ (b = b0 ∨ b ∈ G) ∧ (∀ c ∈ b0 :: G, lo ≤ c ∧ c < W.heap.size) ∧ (∀ c ∈ Fu, lo ≤ c ∧ c < W.heap.size) ∧ Fz W (b0 :: G) ∧ Fz W Fu ∧ ∃ R : Vl → Vl, (∀ x, setP v (ss.take k) x = some (R x)) ∧
    ∀ w' x ds, AgreeBut (b0 :: G) b o W w' → Row8 w' b o ds → VlC w' x ds → ∃ cs', Row8 w' b0 0 cs' ∧ VlC w' (R x) cs'
theorem Way.step {W : World} {lo b0 : Nat} {v : Vl} {ss : List St} {k b o : Nat} {u : Vl} {us : List Value} {s : St} {i b' o' : Nat} (h : Way W lo b0 v ss k b o u us) (hs : ss[k]? = some s) (hi : chI u s = some i) (hl : Loc us s i b' o') : ∃ u' us', Way W lo b0 v ss (k + 1) b' o' u' us' := by
  obtain ⟨got, row, Fu, G, hO, hnd, hd, hb, hlt, hlt', fz, fz', R, hR, hctx⟩ := h
  obtain ⟨u', us', Fu', Gr, g1, g2, g3, g4, g5, g6, g7, g8⟩ := hO.hole hnd hi hl
  have htk : ss.take (k + 1) = ss.take k ++ [s] := by rw [List.take_add_one, hs]; rfl
  refine ⟨u', us', by rw [getP_take got hs]; exact g1, g2, Fu', G ++ Gr, g3, g4, fun c hc => ⟨(hd c (g5 c hc).1).1, fun h' => ?_⟩, .inr (List.mem_append_right _ g7), fun c hc => ?_, fun c hc => hlt' c (g5 c hc).1, fun c hc => ?_, fun c hc => fz' c (g5 c hc).1, fun x => R (setS u s i x), fun x => ?_, ?_⟩
  · rcases List.mem_append.1 h' with h' | h'
    · exact (hd c (g5 c hc).1).2 h'
    · exact (g5 c hc).2 h'
  · rcases List.mem_cons.1 hc with rfl | hc
    · exact hlt _ (List.mem_cons_self ..)
    · rcases List.mem_append.1 hc with hc | hc
      · exact hlt c (List.mem_cons_of_mem _ hc)
      · exact hlt' c (g6 c hc)
  · rcases List.mem_cons.1 hc with rfl | hc
    · exact fz _ (List.mem_cons_self ..)
    · rcases List.mem_append.1 hc with hc | hc
      · exact fz c (List.mem_cons_of_mem _ hc)
      · exact fz' c (g6 c hc)
  · rw [htk, setP_snoc x got hi g1]
    exact hR _
  · intro w' x ds ha hr hx
    have hb' := hd b' (g6 b' g7)
    have ag : Agree (b0 :: G) W w' := ha.agree (fun c hc => by
      rcases List.mem_cons.1 hc with rfl | hc
      · exact List.mem_cons_self ..
      · exact List.mem_cons_of_mem _ (List.mem_append_left _ hc)) (fun h => by
      rcases List.mem_cons.1 h with h | h
      · exact hb'.1 h
      · exact hb'.2 h)
    have hbm : b ∈ b0 :: G := by
      rcases hb with rfl | hb
      · exact List.mem_cons_self ..
      · exact List.mem_cons_of_mem _ hb
    have hv := g8 w' x ds (fun c hc j hj => ha c (List.mem_cons_of_mem _ (List.mem_append_right _ hc)) j hj) hr hx
    exact hctx w' (setS u s i x) us (fun c hc j _ => ag c hc j) (row.agree hbm ag) hv
end Go.Proofs.Ytjlafneklcfgoab.vl
