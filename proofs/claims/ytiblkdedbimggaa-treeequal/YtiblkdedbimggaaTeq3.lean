import Derived.Test.YtiblkdedbimggaaTeq2
import Derived.Test.YtiblkdedbimggaaRows
import GoSem.Core.Float
import Derived.Laws.Cover2
import Derived.Laws.FloatArith
namespace Go.Proofs.Ytiblkdedbimggaa.vl
open Go.ChangeShapes Go.WideShapes Go.ChangeAt Go.RowKit
open stp (St Pth St3)
set_option linter.unusedVariables false
set_option linter.unusedSimpArgs false
set_option maxHeartbeats 6000000 in
set_option maxRecDepth 6000 in
/-- tree.lead, whatever is known of the way -/
theorem lead_ok (J : Nat → Nat → Nat → Vl → List Value → Prop) (W : World) (ap : Option Addr) (n c : Nat) (ss : List St) (hp : Pth W ap n ss) (hn : n ≤ 4611686018427387903) (b0 o0 : Nat) (v0 : Vl) (cs0 : List Value) (h0 : J 0 b0 o0 v0 cs0)
    (hread : ∀ k b o u us, J k b o u us → Row8 W b o us ∧ VlC W u us)
    (hstep : ∀ k b o u us s i b' o', J k b o u us → ss[k]? = some s → chI u s = some i → Loc us s i b' o' → ∃ u' us', J (k + 1) b' o' u' us') :
    Calls Try.prog 37 #[.pointer (some ⟨b0, o0, none⟩), .slice ap n c] W fun e w' => Below W.heap.size W w' ∧ ((∃ k b o u us s, J k b o u us ∧ ss[k]? = some s ∧ chI u s = none ∧ e = .returned (.pointer none)) ∨ (∃ b o u us, J n b o u us ∧ e = .returned (.pointer (some ⟨b, o, none⟩)))) := by
  have HP := hide hp
  have HR := hide hread
  have HS := hide hstep
  have H0 := hide h0
  clear hp hread hstep h0
  have hnil : ∀ (w : World) (a : Option Addr), (binOp .eql 63 (.pointer a) (.pointer none)).run Try.prog w = .ok (.bool a.isNone) w := by
    intro w a
    cases a <;> go_simp
  go_enter Try.func37, Try.ntmps37
  go_wp2_with fail
  go_loopw [0, 9] (fun vp vi wr => ∃ (k b o : Nat) (u : Vl) (us : List Value), k ≤ n ∧ vp = .pointer (some ⟨b, o, none⟩) ∧ vi = .int .i64 k ∧ Hid (J k b o u us) ∧ Below W.heap.size W wr) (fun _ vi _ => n - (intOf vi).toNat)
  case atStart => exact ⟨0, b0, o0, v0, cs0, Nat.zero_le _, rfl, rfl, H0, Below.refl _ _⟩
  case round =>
    obtain ⟨k, b, o, u, us, hk, rfl, rfl, hJ, hB⟩ := hrel
    by_cases hlt : k < n
    · have ki : (k : Int) < (n : Int) := by omega
      obtain ⟨bp, off, rfl, hbp, hst⟩ : ∃ bp off, ap = some ⟨bp, off, none⟩ ∧ bp < W.heap.size ∧ ∀ i, i < n → ∃ s, ss[i]? = some s ∧ St3 W bp (off + i * 3) s.nm s.ix s.it := by
        rcases (unhide HP).at_ with h | h
        · omega
        · exact h
      obtain ⟨s, hs, h3⟩ := hst k hlt
      clear hst
      obtain ⟨q0, q1, q2⟩ := h3.below hbp hB
      obtain ⟨nm, ix, it⟩ := s
      simp only at q0 q1 q2
      have Hs := hide hs
      clear hs h3
      go_wp2_with fail
      have b1 : Below W.heap.size W (wr.alloc (.cells #[.string nm, .int .i64 ix, .bool it] 39)) := hB.alloc hB.size _
      obtain ⟨hrow, hval⟩ := unhide HR k b o u us (unhide hJ)
      refine (child_ok u us b o ⟨nm, ix, it⟩ _ (Row8.below hrow b1) (VlC.below b1 u us hval)).mono ?_
      rintro e w2 ⟨b2, h2⟩
      have b3 : Below W.heap.size W w2 := b1.trans (b2.mono b1.size)
      rcases h2 with ⟨hc, rfl⟩ | ⟨i, b', o', hc, hloc, rfl⟩
      · have Hc := hide hc
        clear hrow hval hc b2 b1
        go_wp2
        go_ret
        exact ⟨b3, .inl ⟨k, b, o, u, us, _, unhide hJ, unhide Hs, unhide Hc, rfl⟩⟩
      · obtain ⟨u', us', hJ'⟩ := unhide HS k b o u us _ i b' o' (unhide hJ) (unhide Hs) hc hloc
        have HJ' := hide hJ'
        clear hrow hval hc hloc b2 b1 hJ'
        go_wp2
        exact ⟨⟨k + 1, b', o', u', us', by omega, rfl, by go_num, HJ', b3⟩, by simp only [intOf]; omega⟩
    · obtain rfl : k = n := by omega
      go_wp2
      go_ret
      exact ⟨hB, .inr ⟨b, o, u, us, unhide hJ, rfl⟩⟩
end Go.Proofs.Ytiblkdedbimggaa.vl
namespace Go.Proofs.Ytiblkdedbimggaa.vl
open Go.ChangeShapes Go.WideShapes Go.ChangeAt Go.RowKit
open stp (St Pth St3)
set_option linter.unusedVariables false
set_option linter.unusedSimpArgs false
theorem getP_app : ∀ (l r : List St) (v : Vl), getP v (l ++ r) = (getP v l).bind fun u => getP u r
  | [], r, v => rfl
  | s :: l, r, v => by
    simp only [List.cons_append, getP]
    cases getS v s with
    | none => rfl
    | some u => simpa using getP_app l r u
theorem getP_one (v : Vl) (s : St) : getP v [s] = getS v s := by
  simp only [getP]
  cases getS v s <;> rfl
theorem getP_take {v u : Vl} {ss : List St} {k : Nat} {s : St} (h : getP v (ss.take k) = some u) (hs : ss[k]? = some s) : getP v (ss.take (k + 1)) = getS u s := by
  rw [List.take_add_one, hs, getP_app, h]
  exact getP_one u s
theorem getS_none {v : Vl} {s : St} (h : chI v s = none) : getS v s = none := by
  cases v
  simp only [getS, h]
theorem getP_none {v u : Vl} {ss : List St} {k : Nat} {s : St} (h : getP v (ss.take k) = some u) (hs : ss[k]? = some s) (hc : chI u s = none) : getP v ss = none := by
  have h1 := getP_take h hs
  rw [getS_none hc] at h1
  rw [← List.take_append_drop (k + 1) ss, getP_app, h1]
  rfl
theorem Small.getS {v u : Vl} {s : St} (hv : Small v) (h : getS v s = some u) : Small u := by
  obtain ⟨kd, bb, ni, f, tx, ty, its, fls⟩ := v
  unfold Small at hv
  simp only [vl.getS] at h
  cases hc : chI (.mk kd bb ni f tx ty its fls) s with
  | none => rw [hc] at h; cases h
  | some i =>
    rw [hc] at h
    simp only at h
    by_cases ht : s.it = true
    · rw [if_pos ht] at h
      exact hv.2.2.2.1.all u (List.mem_of_getElem? h)
    · rw [if_neg ht, Option.map_eq_some_iff] at h
      obtain ⟨q, hq, rfl⟩ := h
      exact hv.2.2.2.2.all q (List.mem_of_getElem? hq)
theorem Small.getP : ∀ {ss : List St} {v u : Vl}, Small v → getP v ss = some u → Small u
  | [], v, u, hv, h => by simp only [vl.getP, Option.some.injEq] at h; rw [← h]; exact hv
  | s :: r, v, u, hv, h => by
    simp only [vl.getP] at h
    cases hs : vl.getS v s with
    | none => rw [hs] at h; cases h
    | some x => rw [hs] at h; exact Small.getP (hv.getS hs) h
/-- the empty value -/
def z8 : List Value := [.int .i64 0, .bool false, .int .i64 0, .float .f64 0, .string { data := #[] }, .string { data := #[] }, .slice none 0 0, .slice none 0 0]
theorem z8i : (Try.prog.info? 27).map (·.size) = some z8.toArray.size := by simp [z8, infoV]
theorem z8o : z8.toArray.all (·.oneCell') = true := by simp [z8, Value.oneCell']
def z0 : Vl := .mk 0 false 0 0 { data := #[] } { data := #[] } .nil .nil
theorem OwC.zero (w : World) : OwC w z0 z8 [] := by
  unfold z0 OwC
  exact ⟨none, 0, 0, none, 0, 0, [], [], rfl, .inl ⟨rfl, rfl, rfl, rfl⟩, .inl ⟨rfl, rfl, rfl, rfl⟩, Nat.le_refl _, Nat.le_refl _, fun _ => rfl, fun _ => rfl, rfl, rfl, Nat.zero_le _, Nat.zero_le _, Nat.zero_le _, Nat.zero_le _, rfl⟩
set_option maxHeartbeats 6000000 in
set_option maxRecDepth 6000 in
theorem get_ok (v : Vl) (cs : List Value) (w : World) (hv : VlC w v cs) (hsm : Small v) (ap : Option Addr) (n c : Nat) (ss : List St) (hp : Pth w ap n ss) (hn : n ≤ 4611686018427387903) :
    Calls Try.prog 22 #[.agg cs.toArray, .slice ap n c] w fun e w' => Below w.heap.size w w' ∧ ∃ (ok : Bool) (u : Vl) (ds : List Value), e = .returned (.tuple #[.agg ds.toArray, .bool ok]) ∧ FrC w.heap.size w' u ds ∧ (if ok = true then getP v ss = some u else getP v ss = none ∧ u = z0) := by
  have hnil : ∀ (w : World) (a : Option Addr), (binOp .eql 63 (.pointer a) (.pointer none)).run Try.prog w = .ok (.bool a.isNone) w := by
    intro w a
    cases a <;> go_simp
  have HV := hide hv
  have HP := hide hp
  have h8 := hide hv.cells
  clear hv hp
  go_enter Try.func22, Try.ntmps22
  go_wp2_with fail
  obtain ⟨W, eW⟩ : ∃ W, W = ((w.alloc (.cells cs.toArray 27)).alloc (.cells #[.int .i64 0, .bool false, .int .i64 0, .float .f64 0, .string { data := #[] }, .string { data := #[] }, .slice none 0 0, .slice none 0 0] 27)) := ⟨_, rfl⟩
  have bW : Below w.heap.size w W := by rw [eW]; exact ((Below.refl _ _).alloc (Nat.le_refl _) _).alloc (by simp) _
  have hsz : W.heap.size = w.heap.size + 2 := by rw [eW]; simp
  have hrow : Row8 W w.heap.size 0 cs := fun j u hu => by
    rw [Nat.zero_add, eW, World.cell?_alloc_past _ _ _ (by simp), World.cell?_alloc_at _ _ _ _ rfl]; simpa using hu
  have hth : W.there (w.heap.size + 1) 0 8 := by
    rw [eW]
    have h := there_new (w := w.alloc (.cells cs.toArray 27)) (Z := #[.int .i64 0, .bool false, .int .i64 0, .float .f64 0, .string { data := #[] }, .string { data := #[] }, .slice none 0 0, .slice none 0 0]) (t := 27) (n := 8) rfl
    simpa using h
  rw [← eW]
  clear eW
  have hvW := VlC.below bW v cs (unhide HV)
  refine (lead_ok (fun k b o u us => getP v (ss.take k) = some u ∧ Row8 W b o us ∧ VlC W u us) W ap n c ss ((unhide HP).below bW) hn w.heap.size 0 v cs ⟨rfl, hrow, hvW⟩ (fun k b o u us h => h.2) (fun k b o u us s i b' o' h hs hc hl => by
    obtain ⟨u', us', h1, h2, h3⟩ := h.2.2.child hc hl
    exact ⟨u', us', by rw [getP_take h.1 hs]; exact h1, h2, h3⟩)).mono ?_
  rintro e w1 ⟨b1, h1⟩
  have hlen := (unhide HP).len
  have hT1 := hide (there_below hth b1 (by omega))
  rcases h1 with ⟨k, b, o, u, us, s, ⟨hg, -, -⟩, hs, hc, rfl⟩ | ⟨b, o, u, us, ⟨hg, hr, hu⟩, rfl⟩
  · have hno := hide (getP_none hg hs hc)
    clear hg hs hc hrow hvW hth hlen
    go_wp2_with (first
      | refine wpList_store_mid (by rfl) 27 _ _ (by rfl) (w.heap.size + 1) 0 z8.toArray (by rfl) (by rfl) (unhide hT1) z8i z8o ?_)
    have hr4 : (w1.setCells (w.heap.size + 1) 0 z8).rangeAt (w.heap.size + 1) 0 z8 := World.rangeAt_setCells_same _ _ _ _ (unhide hT1)
    refine bodyPost_ret (rgn.result_row_tmp rfl _ _ (w.heap.size + 1) 0 z8 _ rfl hr4 Try.underlying27 rfl z8i) rfl ?_
    exact ⟨below_setCells _ _ _ _ (bW.trans (b1.mono bW.size)) (Nat.le_succ _), false, z0, z8, rfl, FrC.of (OwC.zero _) (by simp), by simp; exact unhide hno⟩
  · have hg' := hide (show getP v ss = some u by rwa [List.take_of_length_le (Nat.le_of_eq hlen)] at hg)
    have hr1 := hide (Row8.below hr b1)
    have hu1 := hide (VlC.below b1 u us hu)
    have hi8 : (Try.prog.info? 27).map (·.size) = some us.length := by rw [hu.cells]; exact infoV
    have Hi8 := hide hi8
    clear hg hrow hvW hth hlen hr hu hi8
    go_wp2_with (first
      | refine wpList_load_mid (by rfl) 27 _ (by rfl) b o (by rfl) us _ (unhide hr1) Try.underlying27 (by rfl) (unhide Hi8) ?_)
    have hsu := Small.getP hsm (unhide hg')
    refine (copy_ok u hsu us w1 (unhide hu1)).mono ?_
    rintro e w2 ⟨ds, F, rfl, hO2, hnd, hF, b2, -⟩
    have hT2 : w2.there (w.heap.size + 1) 0 ds.toArray.size := by
      rw [show ds.toArray.size = 8 by simp [(OwC.read u ds F hO2).cells]]
      exact there_below (unhide hT1) b2 (by have := b1.size; omega)
    have i8 : (Try.prog.info? 27).map (·.size) = some ds.toArray.size := by simp [(OwC.read u ds F hO2).cells, infoV]
    have d1 := (OwC.read u ds F hO2).one
    have HT := hide hT2
    have HI := hide i8
    have HO := hide hO2
    clear hT2 i8 hO2
    go_wp2_with (first
      | refine wpList_store_mid (by rfl) 27 _ _ (by rfl) (w.heap.size + 1) 0 ds.toArray (by rfl) (by rfl) (unhide HT) (unhide HI) d1 ?_)
    have hr4 : (w2.setCells (w.heap.size + 1) 0 ds).rangeAt (w.heap.size + 1) 0 ds := World.rangeAt_setCells_same _ _ _ _ (unhide HT)
    refine bodyPost_ret (rgn.result_row_tmp rfl _ _ (w.heap.size + 1) 0 ds _ rfl hr4 Try.underlying27 rfl (unhide HI)) rfl ?_
    have hnF : w.heap.size + 1 ∉ F := fun h => by have := (hF _ h).1; have := b1.size; omega
    exact ⟨below_setCells _ _ _ _ ((bW.trans (b1.mono bW.size)).trans (b2.mono (Nat.le_trans bW.size b1.size))) (Nat.le_succ _), true, u, ds, rfl, FrC.of (OwC.agree u ds F (agree_setCells w2 hnF) (unhide HO)) (fun b hb => by have h1 := hF b hb; have h2 := b1.size; rw [size_setCells]; omega), by rw [if_pos rfl]; exact unhide hg'⟩
end Go.Proofs.Ytiblkdedbimggaa.vl
namespace Go.Proofs.Ytiblkdedbimggaa.vl
open Go.ChangeShapes Go.WideShapes Go.ChangeAt Go.RowKit
open stp (St Pth St3)
set_option linter.unusedVariables false
set_option linter.unusedSimpArgs false
/-- the child number i is another value -/
def setS : Vl → St → Nat → Vl → Vl
  | .mk kd b n f tx ty its fls, s, i, x => if s.it = true then .mk kd b n f tx ty (Vls.of (its.list.set i x)) fls else .mk kd b n f tx ty its (Fls.of (fls.list.modify i fun q => (q.1, x)))
def setP : Vl → List St → Vl → Option Vl
  | v, [], x => some x
  | v, s :: r, x => match chI v s, getS v s with
    | some i, some u => (setP u r x).map (setS v s i)
    | _, _ => none
theorem setP_snoc : ∀ {l : List St} {v u : Vl} {s : St} {i : Nat} {c : Vl} (x : Vl), getP v l = some u → chI u s = some i → getS u s = some c → setP v (l ++ [s]) x = setP v l (setS u s i x)
  | [], v, u, s, i, c, x, h, hc, hs => by
    simp only [getP, Option.some.injEq] at h
    subst h
    simp only [List.nil_append, setP, hc, hs, Option.map_some]
  | t :: l, v, u, s, i, c, x, h, hc, hs => by
    simp only [getP] at h
    cases ht : getS v t with
    | none => rw [ht] at h; cases h
    | some y =>
      rw [ht] at h
      simp only [List.cons_append, setP, ht]
      cases hct : chI v t with
      | none => rfl
      | some j => simp only; rw [setP_snoc x h hc hs]
theorem setP_none : ∀ {l : List St} {v : Vl} (x : Vl), getP v l = none → setP v l x = none
  | [], v, x, h => by simp [getP] at h
  | t :: l, v, x, h => by
    simp only [getP] at h
    simp only [setP]
    cases ht : getS v t with
    | none => cases chI v t <;> rfl
    | some y =>
      rw [ht] at h
      cases hct : chI v t with
      | none => rfl
      | some j => simp only; rw [setP_none x h]; rfl
theorem OwsIn.keepR {w w' : World} : ∀ (l : Vls) (p off n : Nat) (G : List Nat), Agree G w w' → (∀ o, off ≤ o → o < off + n * 8 → w'.cell? ⟨p, o, none⟩ = w.cell? ⟨p, o, none⟩) → OwsIn w l p off n G → OwsIn w' l p off n G
  | .nil, p, off, n, G, ha, hc, h => by unfold OwsIn at h ⊢; exact h
  | .cons v r, p, off, n, G, ha, hc, h => by
    unfold OwsIn at h ⊢
    obtain ⟨m, cs, G1, G2, rfl, h1, h2, h3, rfl⟩ := h
    have h8 := (OwC.read v cs G1 h2).cells
    exact ⟨m, cs, G1, G2, rfl, fun i u hu => (hc (off + i) (by omega) (by have := (List.getElem?_eq_some_iff.1 hu).1; omega)).trans (h1 i u hu), OwC.agree v cs G1 ha.left h2, OwsIn.keepR r p _ m G2 ha.right (fun o h0 ho => hc o (by omega) (by omega)) h3, rfl⟩
theorem OwfIn.keepR {w w' : World} : ∀ (l : Fls) (p off n : Nat) (G : List Nat), Agree G w w' → (∀ o, off ≤ o → o < off + n * 9 → w'.cell? ⟨p, o, none⟩ = w.cell? ⟨p, o, none⟩) → OwfIn w l p off n G → OwfIn w' l p off n G
  | .nil, p, off, n, G, ha, hc, h => by unfold OwfIn at h ⊢; exact h
  | .cons nm v r, p, off, n, G, ha, hc, h => by
    unfold OwfIn at h ⊢
    obtain ⟨m, cs, G1, G2, rfl, h0, hz, h1, h2, h3, rfl⟩ := h
    have h8 := (OwC.read v cs G1 h2).cells
    exact ⟨m, cs, G1, G2, rfl, (hc off (by omega) (by omega)).trans h0, hz, fun i u hu => (hc (off + 1 + i) (by omega) (by have := (List.getElem?_eq_some_iff.1 hu).1; omega)).trans (h1 i u hu), OwC.agree v cs G1 ha.left h2, OwfIn.keepR r p _ m G2 ha.right (fun o h0 ho => hc o (by omega) (by omega)) h3, rfl⟩
/-- one item of a list that is owned, and the list around it -/
theorem OwsIn.hole {w : World} : ∀ (l : Vls) (p off n : Nat) (G : List Nat), OwsIn w l p off n G → G.Nodup → ∀ i, i < n → ∃ u us Gi Gr, l.list[i]? = some u ∧ Row8 w p (off + i * 8) us ∧ OwC w u us Gi ∧ Gi.Nodup ∧ (∀ c ∈ Gi, c ∈ G ∧ c ∉ Gr) ∧ (∀ c ∈ Gr, c ∈ G) ∧
    ∀ w' x ds, Agree Gr w w' → (∀ j, (j < off + i * 8 ∨ off + i * 8 + 8 ≤ j) → w'.cell? ⟨p, j, none⟩ = w.cell? ⟨p, j, none⟩) → Row8 w' p (off + i * 8) ds → VlC w' x ds → VlsAt w' (Vls.of (l.list.set i x)) (some ⟨p, off, none⟩) n
  | .nil, p, off, n, G, h, hn, i, hi => by unfold OwsIn at h; omega
  | .cons v r, p, off, n, G, h, hn, i, hi => by
    unfold OwsIn at h
    obtain ⟨m, cs, G1, G2, rfl, h1, h2, h3, rfl⟩ := h
    rw [List.nodup_append] at hn
    obtain ⟨n1, n2, n3⟩ := hn
    match i with
    | 0 =>
      refine ⟨v, cs, G1, G2, rfl, by simpa using h1, h2, n1, fun c hc => ⟨List.mem_append_left _ hc, fun hc' => n3 c hc c hc' rfl⟩, fun c hc => List.mem_append_right _ hc, ?_⟩
      intro w' x ds ha hc hr hx
      simp only [Vls.list, List.set_cons_zero, Vls.of]
      unfold VlsAt
      refine ⟨p, off, m, ds, rfl, rfl, by simpa using hr, hx, ?_⟩
      rw [Vls.of_list]
      exact OwsIn.read _ _ _ _ _ (OwsIn.keepR r p (off + 8) m G2 ha (fun o h0 _ => hc o (.inr (by omega))) h3)
    | i + 1 =>
      obtain ⟨u, us, Gi, Gr, g1, g2, g3, g4, g5, g6, g7⟩ := OwsIn.hole r p (off + 8) m G2 h3 n2 i (by omega)
      rw [show off + 8 + i * 8 = off + (i + 1) * 8 by omega] at g2 g7
      refine ⟨u, us, Gi, G1 ++ Gr, by simpa [Vls.list] using g1, g2, g3, g4, fun c hc => ⟨List.mem_append_right _ (g5 c hc).1, fun hc' => ?_⟩, fun c hc => ?_, ?_⟩
      · rcases List.mem_append.1 hc' with h | h
        · exact n3 c h c (g5 c hc).1 rfl
        · exact (g5 c hc).2 h
      · rcases List.mem_append.1 hc with h | h
        · exact List.mem_append_left _ h
        · exact List.mem_append_right _ (g6 c h)
      · intro w' x ds ha hc hr hx
        simp only [Vls.list, List.set_cons_succ, Vls.of]
        unfold VlsAt
        have h8 := (OwC.read v cs G1 h2).cells
        refine ⟨p, off, m, cs, rfl, rfl, fun j y hy => (hc (off + j) (.inl (by have := (List.getElem?_eq_some_iff.1 hy).1; omega))).trans (h1 j y hy), OwC.read _ _ _ (OwC.agree v cs G1 ha.left h2), g7 w' x ds ha.right hc hr hx⟩
theorem OwfIn.hole {w : World} : ∀ (l : Fls) (p off n : Nat) (G : List Nat), OwfIn w l p off n G → G.Nodup → ∀ i, i < n → ∃ nm u us Gi Gr, l.list[i]? = some (nm, u) ∧ Row8 w p (off + i * 9 + 1) us ∧ OwC w u us Gi ∧ Gi.Nodup ∧ (∀ c ∈ Gi, c ∈ G ∧ c ∉ Gr) ∧ (∀ c ∈ Gr, c ∈ G) ∧
    ∀ w' x ds, Agree Gr w w' → (∀ j, (j < off + i * 9 + 1 ∨ off + i * 9 + 1 + 8 ≤ j) → w'.cell? ⟨p, j, none⟩ = w.cell? ⟨p, j, none⟩) → Row8 w' p (off + i * 9 + 1) ds → VlC w' x ds → FlsAt w' (Fls.of (l.list.modify i fun q => (q.1, x))) (some ⟨p, off, none⟩) n
  | .nil, p, off, n, G, h, hn, i, hi => by unfold OwfIn at h; omega
  | .cons nm v r, p, off, n, G, h, hn, i, hi => by
    unfold OwfIn at h
    obtain ⟨m, cs, G1, G2, rfl, h0, hz, h1, h2, h3, rfl⟩ := h
    rw [List.nodup_append] at hn
    obtain ⟨n1, n2, n3⟩ := hn
    match i with
    | 0 =>
      refine ⟨nm, v, cs, G1, G2, rfl, by simpa using h1, h2, n1, fun c hc => ⟨List.mem_append_left _ hc, fun hc' => n3 c hc c hc' rfl⟩, fun c hc => List.mem_append_right _ hc, ?_⟩
      intro w' x ds ha hc hr hx
      simp only [Fls.list, List.modify_zero_cons, Fls.of]
      unfold FlsAt
      refine ⟨p, off, m, ds, rfl, rfl, (hc off (.inl (by omega))).trans h0, hz, by simpa using hr, hx, ?_⟩
      rw [Fls.of_list]
      exact OwfIn.read _ _ _ _ _ (OwfIn.keepR r p (off + 9) m G2 ha (fun o h0 _ => hc o (.inr (by omega))) h3)
    | i + 1 =>
      obtain ⟨nm', u, us, Gi, Gr, g1, g2, g3, g4, g5, g6, g7⟩ := OwfIn.hole r p (off + 9) m G2 h3 n2 i (by omega)
      rw [show off + 9 + i * 9 + 1 = off + (i + 1) * 9 + 1 by omega] at g2 g7
      refine ⟨nm', u, us, Gi, G1 ++ Gr, by simpa [Fls.list] using g1, g2, g3, g4, fun c hc => ⟨List.mem_append_right _ (g5 c hc).1, fun hc' => ?_⟩, fun c hc => ?_, ?_⟩
      · rcases List.mem_append.1 hc' with h | h
        · exact n3 c h c (g5 c hc).1 rfl
        · exact (g5 c hc).2 h
      · rcases List.mem_append.1 hc with h | h
        · exact List.mem_append_left _ h
        · exact List.mem_append_right _ (g6 c h)
      · intro w' x ds ha hc hr hx
        simp only [Fls.list, List.modify_succ_cons, Fls.of]
        unfold FlsAt
        have h8 := (OwC.read v cs G1 h2).cells
        refine ⟨p, off, m, cs, rfl, rfl, (hc off (.inl (by omega))).trans h0, hz, fun j y hy => (hc (off + 1 + j) (.inl (by have := (List.getElem?_eq_some_iff.1 hy).1; omega))).trans (h1 j y hy), OwC.read _ _ _ (OwC.agree v cs G1 ha.left h2), g7 w' x ds ha.right hc hr hx⟩
end Go.Proofs.Ytiblkdedbimggaa.vl
namespace Go.Proofs.Ytiblkdedbimggaa.vl
open Go.ChangeShapes Go.WideShapes Go.ChangeAt Go.RowKit
open stp (St Pth St3)
set_option linter.unusedVariables false
set_option linter.unusedSimpArgs false
/-- two worlds that agree on these blocks but for eight cells -/
def AgreeBut (F : List Nat) (b o : Nat) (w w' : World) : Prop := ∀ c ∈ F, ∀ j, (c ≠ b ∨ j < o ∨ o + 8 ≤ j) → w'.cell? ⟨c, j, none⟩ = w.cell? ⟨c, j, none⟩
theorem AgreeBut.agree {F G : List Nat} {b o : Nat} {w w' : World} (h : AgreeBut F b o w w') (hs : ∀ c ∈ G, c ∈ F) (hb : b ∉ G) : Agree G w w' := fun c hc j => h c (hs c hc) j (.inl fun e => hb (e ▸ hc))
/-- one child of a value that is owned, and the value around it -/
theorem OwC.hole {w : World} {v : Vl} {cs : List Value} {F : List Nat} {s : St} {i b o : Nat} (h : OwC w v cs F) (hn : F.Nodup) (hi : chI v s = some i) (hl : Loc cs s i b o) :
    ∃ u us Fu Gr, getS v s = some u ∧ Row8 w b o us ∧ OwC w u us Fu ∧ Fu.Nodup ∧ (∀ c ∈ Fu, c ∈ F ∧ c ∉ Gr) ∧ (∀ c ∈ Gr, c ∈ F) ∧ b ∈ Gr ∧ ∀ w' x ds, AgreeBut Gr b o w w' → Row8 w' b o ds → VlC w' x ds → VlC w' (setS v s i x) cs := by
  obtain ⟨kd, bb, ni, f, tx, ty, its, fls⟩ := v
  have hg : getS (.mk kd bb ni f tx ty its fls) s = if s.it = true then its.list[i]? else (fls.list[i]?).map (·.2) := by simp only [getS, hi]
  have hset : ∀ x, setS (.mk kd bb ni f tx ty its fls) s i x = if s.it = true then .mk kd bb ni f tx ty (Vls.of (its.list.set i x)) fls else .mk kd bb ni f tx ty its (Fls.of (fls.list.modify i fun q => (q.1, x))) := fun x => rfl
  rw [chI_mk] at hi
  unfold OwC at h
  obtain ⟨ai, nI, ci, af, nf, cf, Fi, Ff, rfl, hI, hF, hni, hnf, hai, haf, hk1, hk2, hk3, hk4, hci, hcf, rfl⟩ := h
  rw [List.nodup_append] at hn
  obtain ⟨n1, n2, n3⟩ := hn
  obtain ⟨p, off, n, c, hl⟩ := hl
  by_cases ht : s.it = true
  · rw [if_pos ht] at hi hl hg
    obtain ⟨h6, rfl, rfl⟩ := hl
    simp at h6
    obtain ⟨rfl, rfl, rfl⟩ := h6
    by_cases hc : kd = 5 ∧ 0 ≤ s.ix ∧ s.ix < its.list.length
    · rw [if_pos hc] at hi
      obtain rfl := Option.some.inj hi
      rcases hI with ⟨h, _⟩ | ⟨p', G, e, rfl, hI⟩
      · cases h
      · simp only [Option.some.injEq, Addr.mk.injEq, and_true] at e
        obtain ⟨rfl, rfl⟩ := e
        have hlen := VlsAt.len its _ _ (OwsIn.read _ _ _ _ _ hI)
        rw [List.nodup_cons] at n1
        obtain ⟨u, us, Gi, Gr, g1, g2, g3, g4, g5, g6, g7⟩ := OwsIn.hole its b 0 nI G hI n1.2 s.ix.toNat (by omega)
        refine ⟨u, us, Gi, b :: (Gr ++ Ff), hg.trans g1, g2, g3, g4, fun x hx => ⟨?_, ?_⟩, fun x hx => ?_, List.mem_cons_self .., ?_⟩
        · exact List.mem_append_left _ (List.mem_cons_of_mem _ (g5 x hx).1)
        · intro hx'
          rcases List.mem_cons.1 hx' with rfl | hx'
          · exact n1.1 (g5 _ hx).1
          · rcases List.mem_append.1 hx' with hx' | hx'
            · exact (g5 x hx).2 hx'
            · exact n3 x (List.mem_cons_of_mem _ (g5 x hx).1) x hx' rfl
        · rcases List.mem_cons.1 hx with rfl | hx
          · exact List.mem_append_left _ (List.mem_cons_self ..)
          · rcases List.mem_append.1 hx with hx | hx
            · exact List.mem_append_left _ (List.mem_cons_of_mem _ (g6 x hx))
            · exact List.mem_append_right _ hx
        · intro w' x ds ha hr hx
          have a1 : Agree Gr w w' := ha.agree (fun c hc => List.mem_cons_of_mem _ (List.mem_append_left _ hc)) (fun h => n1.1 (g6 _ h))
          have a2 : Agree Ff w w' := ha.agree (fun c hc => List.mem_cons_of_mem _ (List.mem_append_right _ hc)) (fun h => n3 b (List.mem_cons_self ..) b h rfl)
          have hV := g7 w' x ds a1 (fun j hj => ha b (List.mem_cons_self ..) j (.inr hj)) hr hx
          rw [hset, if_pos ht]
          unfold VlC
          refine ⟨_, nI, ci, af, nf, cf, rfl, hV, ?_, hni, hnf, hai, haf, hk1, hk2, hk3, hk4, hci, hcf⟩
          rcases hF with ⟨rfl, rfl, rfl, _⟩ | ⟨p', G', rfl, rfl, hF⟩
          · unfold FlsAt; rfl
          · exact OwfIn.read _ _ _ _ _ (OwfIn.agree fls p' 0 nf G' a2 hF)
    · rw [if_neg hc] at hi
      cases hi
  · rw [if_neg ht] at hi hl hg
    obtain ⟨h7, rfl, rfl⟩ := hl
    simp at h7
    obtain ⟨rfl, rfl, rfl⟩ := h7
    by_cases hc : kd = 6
    · rw [if_pos hc] at hi
      rcases hF with ⟨h, _⟩ | ⟨p', G, e, rfl, hF⟩
      · cases h
      · simp only [Option.some.injEq, Addr.mk.injEq, and_true] at e
        obtain ⟨rfl, rfl⟩ := e
        have hlen := FlsAt.len fls _ _ (OwfIn.read _ _ _ _ _ hF)
        rw [List.nodup_cons] at n2
        obtain ⟨q, hq, _⟩ := findIdx_get hi
        obtain ⟨nm, u, us, Gi, Gr, g1, g2, g3, g4, g5, g6, g7⟩ := OwfIn.hole fls b 0 nf G hF n2.2 i (by rw [← hlen]; exact (List.getElem?_eq_some_iff.1 hq).1)
        refine ⟨u, us, Gi, b :: (Gr ++ Fi), hg.trans (by rw [g1]; rfl), g2, g3, g4, fun x hx => ⟨?_, ?_⟩, fun x hx => ?_, List.mem_cons_self .., ?_⟩
        · exact List.mem_append_right _ (List.mem_cons_of_mem _ (g5 x hx).1)
        · intro hx'
          rcases List.mem_cons.1 hx' with rfl | hx'
          · exact n2.1 (g5 _ hx).1
          · rcases List.mem_append.1 hx' with hx' | hx'
            · exact (g5 x hx).2 hx'
            · exact n3 x hx' x (List.mem_cons_of_mem _ (g5 x hx).1) rfl
        · rcases List.mem_cons.1 hx with rfl | hx
          · exact List.mem_append_right _ (List.mem_cons_self ..)
          · rcases List.mem_append.1 hx with hx | hx
            · exact List.mem_append_right _ (List.mem_cons_of_mem _ (g6 x hx))
            · exact List.mem_append_left _ hx
        · intro w' x ds ha hr hx
          have a1 : Agree Gr w w' := ha.agree (fun c hc => List.mem_cons_of_mem _ (List.mem_append_left _ hc)) (fun h => n2.1 (g6 _ h))
          have a2 : Agree Fi w w' := ha.agree (fun c hc => List.mem_cons_of_mem _ (List.mem_append_right _ hc)) (fun h => n3 b h b (List.mem_cons_self ..) rfl)
          have hV := g7 w' x ds a1 (fun j hj => ha b (List.mem_cons_self ..) j (.inr hj)) hr hx
          rw [hset, if_neg ht]
          unfold VlC
          refine ⟨ai, nI, ci, _, nf, cf, rfl, ?_, hV, hni, hnf, hai, haf, hk1, hk2, hk3, hk4, hci, hcf⟩
          rcases hI with ⟨rfl, rfl, rfl, _⟩ | ⟨p', G', rfl, rfl, hI⟩
          · unfold VlsAt; rfl
          · exact OwsIn.read _ _ _ _ _ (OwsIn.agree its p' 0 nI G' a2 hI)
    · rw [if_neg hc] at hi
      cases hi
/-- the way down from a value of the call's own: where it stands, and what a write there makes of the whole -/
structure Way (W : World) (lo b0 : Nat) (v : Vl) (ss : List St) (k b o : Nat) (u : Vl) (us : List Value) : Prop where
  got : getP v (ss.take k) = some u
  row : Row8 W b o us
  ctx : ∃ Fu G, OwC W u us Fu ∧ Fu.Nodup ∧ (∀ c ∈ Fu, c ≠ b0 ∧ c ∉ G) ∧ (b = b0 ∨ b ∈ G) ∧ (∀ c ∈ b0 :: G, lo ≤ c ∧ c < W.heap.size) ∧ (∀ c ∈ Fu, lo ≤ c ∧ c < W.heap.size) ∧ Fz W (b0 :: G) ∧ Fz W Fu ∧ ∃ R : Vl → Vl, (∀ x, setP v (ss.take k) x = some (R x)) ∧
    ∀ w' x ds, AgreeBut (b0 :: G) b o W w' → Row8 w' b o ds → VlC w' x ds → ∃ cs', Row8 w' b0 0 cs' ∧ VlC w' (R x) cs'
theorem Way.step {W : World} {lo b0 : Nat} {v : Vl} {ss : List St} {k b o : Nat} {u : Vl} {us : List Value} {s : St} {i b' o' : Nat} (h : Way W lo b0 v ss k b o u us) (hs : ss[k]? = some s) (hi : chI u s = some i) (hl : Loc us s i b' o') : ∃ u' us', Way W lo b0 v ss (k + 1) b' o' u' us' := by
  obtain ⟨got, row, Fu, G, hO, hnd, hd, hb, hlt, hlt', fz, fz', R, hR, hctx⟩ := h
  obtain ⟨u', us', Fu', Gr, g1, g2, g3, g4, g5, g6, g7, g8⟩ := hO.hole hnd hi hl
  have htk : ss.take (k + 1) = ss.take k ++ [s] := by rw [List.take_add_one, hs]; rfl
  refine ⟨u', us', by rw [getP_take got hs]; exact g1, g2, Fu', G ++ Gr, g3, g4, fun c hc => ⟨(hd c (g5 c hc).1).1, fun h' => ?_⟩, .inr (List.mem_append_right _ g7), fun c hc => ?_, fun c hc => hlt' c (g5 c hc).1, fun c hc => ?_, fun c hc => fz' c (g5 c hc).1, fun x => R (setS u s i x), fun x => ?_, ?_⟩
  · rcases List.mem_append.1 h' with h' | h'
    · exact (hd c (g5 c hc).1).2 h'
    · exact (g5 c hc).2 h'
  · rcases List.mem_cons.1 hc with rfl | hc
    · exact hlt _ (List.mem_cons_self ..)
    · rcases List.mem_append.1 hc with hc | hc
      · exact hlt c (List.mem_cons_of_mem _ hc)
      · exact hlt' c (g6 c hc)
  · rcases List.mem_cons.1 hc with rfl | hc
    · exact fz _ (List.mem_cons_self ..)
    · rcases List.mem_append.1 hc with hc | hc
      · exact fz c (List.mem_cons_of_mem _ hc)
      · exact fz' c (g6 c hc)
  · rw [htk, setP_snoc x got hi g1]
    exact hR _
  · intro w' x ds ha hr hx
    have hb' := hd b' (g6 b' g7)
    have ag : Agree (b0 :: G) W w' := ha.agree (fun c hc => by
      rcases List.mem_cons.1 hc with rfl | hc
      · exact List.mem_cons_self ..
      · exact List.mem_cons_of_mem _ (List.mem_append_left _ hc)) (fun h => by
      rcases List.mem_cons.1 h with h | h
      · exact hb'.1 h
      · exact hb'.2 h)
    have hbm : b ∈ b0 :: G := by
      rcases hb with rfl | hb
      · exact List.mem_cons_self ..
      · exact List.mem_cons_of_mem _ hb
    have hv := g8 w' x ds (fun c hc j hj => ha c (List.mem_cons_of_mem _ (List.mem_append_right _ hc)) j hj) hr hx
    exact hctx w' (setS u s i x) us (fun c hc j _ => ag c hc j) (row.agree hbm ag) hv
end Go.Proofs.Ytiblkdedbimggaa.vl
namespace Go.Proofs.Ytiblkdedbimggaa.vl
open Go.ChangeShapes Go.WideShapes Go.ChangeAt Go.RowKit
open stp (St Pth St3)
set_option linter.unusedVariables false
set_option linter.unusedSimpArgs false
theorem row_uniq {w : World} {b o : Nat} {l l' : List Value} (h : Row8 w b o l) (h' : Row8 w b o l') (hl : l.length = l'.length) : l = l' := by
  apply List.ext_getElem? 
  intro i
  by_cases hi : i < l.length
  · have h1 := h i _ (List.getElem?_eq_getElem hi)
    have h2 := h' i _ (List.getElem?_eq_getElem (hl ▸ hi))
    rw [List.getElem?_eq_getElem hi, List.getElem?_eq_getElem (hl ▸ hi)]
    exact h1.symm.trans h2
  · rw [List.getElem?_eq_none (by omega), List.getElem?_eq_none (by omega)]
set_option maxHeartbeats 6000000 in
set_option maxRecDepth 6000 in
theorem set_ok (v x : Vl) (cs xs : List Value) (w : World) (hv : VlC w v cs) (hx : VlC w x xs) (hsm : Small v) (hsx : Small x) (ap : Option Addr) (n c : Nat) (ss : List St) (hp : Pth w ap n ss) (hn : n ≤ 4611686018427387903) :
    Calls Try.prog 23 #[.agg cs.toArray, .slice ap n c, .agg xs.toArray] w fun e w' => Below w.heap.size w w' ∧ ∃ (ok : Bool) (u : Vl) (ds : List Value), e = .returned (.tuple #[.agg ds.toArray, .bool ok]) ∧ FrC w.heap.size w' u ds ∧ (if ok = true then setP v ss x = some u else getP v ss = none ∧ u = z0) := by
  have hnil : ∀ (w : World) (a : Option Addr), (binOp .eql 63 (.pointer a) (.pointer none)).run Try.prog w = .ok (.bool a.isNone) w := by
    intro w a
    cases a <;> go_simp
  have HV := hide hv
  have HX := hide hx
  have HP := hide hp
  clear hv hp hx
  obtain ⟨W, eW⟩ : ∃ W, W = (((w.alloc (.cells cs.toArray 27)).alloc (.cells xs.toArray 27)).alloc (.cells #[.int .i64 0, .bool false, .int .i64 0, .float .f64 0, .string { data := #[] }, .string { data := #[] }, .slice none 0 0, .slice none 0 0] 27)) := ⟨_, rfl⟩
  have bW : Below w.heap.size w W := by rw [eW]; exact (((Below.refl _ _).alloc (Nat.le_refl _) _).alloc (by simp) _).alloc (by simp; omega) _
  have hsz : W.heap.size = w.heap.size + 3 := by rw [eW]; simp
  have hrow : W.rangeAt w.heap.size 0 cs := fun j u hu => by
    rw [Nat.zero_add, eW, World.cell?_alloc_past _ _ _ (by simp; omega), World.cell?_alloc_past _ _ _ (by simp), World.cell?_alloc_at _ _ _ _ rfl]; simpa using hu
  have hrox : W.rangeAt (w.heap.size + 1) 0 xs := fun j u hu => by
    rw [Nat.zero_add, eW, World.cell?_alloc_past _ _ _ (by simp), World.cell?_alloc_at _ _ _ _ (by simp)]; simpa using hu
  have hth : W.there (w.heap.size + 2) 0 8 := by
    rw [eW]
    have h := there_new (w := (w.alloc (.cells cs.toArray 27)).alloc (.cells xs.toArray 27)) (Z := #[.int .i64 0, .bool false, .int .i64 0, .float .f64 0, .string { data := #[] }, .string { data := #[] }, .slice none 0 0, .slice none 0 0]) (t := 27) (n := 8) rfl
    simpa using h
  have iC : (Try.prog.info? 27).map (·.size) = some cs.length := by rw [(unhide HV).cells]; exact infoV
  have iX : (Try.prog.info? 27).map (·.size) = some xs.length := by rw [(unhide HX).cells]; exact infoV
  have EW := hide eW
  have HR := hide (And.intro hrow (And.intro hrox (And.intro hth (And.intro iC iX))))
  clear eW hrow hrox hth iC iX
  go_enter Try.func23, Try.ntmps23
  go_wp2_with (first
    | refine wpList_load_mid (by rfl) 27 _ (by rfl) w.heap.size 0 (by rfl) cs _ (by rw [← unhide EW]; exact (unhide HR).1) Try.underlying27 (by rfl) (unhide HR).2.2.2.1 ?_)
  rw [← unhide EW]
  clear EW
  refine (copy_ok v hsm cs W (VlC.below bW v cs (unhide HV))).mono ?_
  rintro e w1 ⟨ds, F, rfl, hO1, hnd, hF, b1, zF⟩
  have HO1 := hide hO1
  have d8 := hide (OwC.read v ds F hO1).cells
  have d1 := (OwC.read v ds F hO1).one
  clear hO1
  have i8 := hide (show (Try.prog.info? 27).map (·.size) = some ds.toArray.size by simp [unhide d8, infoV])
  have hz8 : ds.toArray.size = 8 := by simp [unhide d8]
  have Hz8 := hide hz8
  clear hz8
  go_wp2_with (first
    | refine wpList_store_mid (by rfl) 27 _ _ (by rfl) w1.heap.size 0 ds.toArray (by rfl) (by rfl) (there_new (by rw [unhide Hz8]; rfl)) (unhide i8) d1 ?_)
  obtain ⟨W2, e2⟩ : ∃ W2, W2 = ((w1.alloc (.cells #[.int .i64 0, .bool false, .int .i64 0, .float .f64 0, .string { data := #[] }, .string { data := #[] }, .slice none 0 0, .slice none 0 0] 27)).setCells w1.heap.size 0 ds) := ⟨_, rfl⟩
  have b2 : Below w1.heap.size w1 W2 := by rw [e2]; exact below_setCells _ _ _ _ ((Below.refl _ _).alloc (Nat.le_refl _) _) (Nat.le_refl _)
  have hs2 : W2.heap.size = w1.heap.size + 1 := by rw [e2, size_setCells]; simp
  have th8 : (w1.alloc (.cells #[.int .i64 0, .bool false, .int .i64 0, .float .f64 0, .string { data := #[] }, .string { data := #[] }, .slice none 0 0, .slice none 0 0] 27)).there w1.heap.size 0 ds.length := there_new (by rw [unhide d8]; rfl)
  have row2 : Row8 W2 w1.heap.size 0 ds := by rw [e2]; exact World.rangeAt_setCells_same _ _ _ _ th8
  have th2 : W2.there w1.heap.size 0 8 := by rw [e2]; have := th8; rw [unhide d8] at this; exact World.there_setCells this _ _ _
  have fz2 : Fz W2 [w1.heap.size] := by rw [e2]; exact Fz.new.setCells _ _ _
  rw [← e2]
  clear e2 th8
  have hlt1 : ∀ b ∈ F, b < w1.heap.size := fun b hb => (hF b hb).2
  have hO2 : OwC W2 v ds F := OwC.agree v ds F (Agree.of_below b2 hlt1) (unhide HO1)
  have hpW : Pth W2 ap n ss := (((unhide HP).below bW).below b1).below b2
  have way0 : Way W2 (w.heap.size + 3) w1.heap.size v ss 0 w1.heap.size 0 v ds := ⟨rfl, row2, F, [], hO2, hnd, fun c hc => ⟨fun e => absurd (hlt1 c hc) (by omega), by simp⟩, .inl rfl, fun c hc => by simp at hc; have := b1.size; omega, fun c hc => by have := hlt1 c hc; have := (hF c hc).1; omega, fz2, zF.below b2 hlt1, id, fun x => rfl, fun w' x ds' _ hr hx => ⟨ds', hr, hx⟩⟩
  refine (lead_ok (Way W2 (w.heap.size + 3) w1.heap.size v ss) W2 ap n c ss hpW hn w1.heap.size 0 v ds way0 (fun k b o u us h => ⟨h.row, by obtain ⟨Fu, G, h, _⟩ := h.ctx; exact OwC.read _ _ _ h⟩) (fun k b o u us s i b' o' h hs hc hl => h.step hs hc hl)).mono ?_
  rintro e w3 ⟨b3, h3⟩
  have hlen := (unhide HP).len
  have sW := bW.size
  have s1 := b1.size
  have hT3 : w3.there (w.heap.size + 2) 0 8 := there_below (there_below (there_below (unhide HR).2.2.1 b1 (by omega)) b2 (by omega)) b3 (by omega)
  have HT3 := hide hT3
  have bb3 : Below w.heap.size w w3 := ((bW.trans (b1.mono bW.size)).trans (b2.mono (by omega))).trans (b3.mono (by omega))
  rcases h3 with ⟨k, b, o, u, us, s, hw, hs, hc, rfl⟩ | ⟨b, o, u, us, hw, rfl⟩
  · have hno := hide (getP_none hw.got hs hc)
    clear hw hs hc hT3 way0 hpW hO2 row2 th2
    go_wp2_with (first
      | refine wpList_store_mid (by rfl) 27 _ _ (by rfl) (w.heap.size + 1 + 1) 0 z8.toArray (by rfl) (by rfl) (unhide HT3) z8i z8o ?_)
    have hr4 : (w3.setCells (w.heap.size + 1 + 1) 0 z8).rangeAt (w.heap.size + 1 + 1) 0 z8 := World.rangeAt_setCells_same _ _ _ _ (unhide HT3)
    refine bodyPost_ret (rgn.result_row_tmp rfl _ _ (w.heap.size + 1 + 1) 0 z8 _ rfl hr4 Try.underlying27 rfl z8i) rfl ?_
    exact ⟨below_setCells _ _ _ _ bb3 (by omega), false, z0, z8, rfl, FrC.of (OwC.zero _) (by simp), by simp; exact unhide hno⟩
  · have HW := hide hw
    have hrx := hide ((((show Row8 W (w.heap.size + 1) 0 xs from (unhide HR).2.1).below b1).below b2).below b3)
    clear hw hT3 way0 hpW hO2 row2
    go_wp2_with (first
      | refine wpList_load_mid (by rfl) 27 _ (by rfl) (w.heap.size + 1) 0 (by rfl) xs _ (unhide hrx) Try.underlying27 (by rfl) (unhide HR).2.2.2.2 ?_)
    refine (copy_ok x hsx xs w3 (VlC.below bb3 x xs (unhide HX))).mono ?_
    rintro e w4 ⟨gs, Fx, rfl, hO4, -, hFx, b4, -⟩
    obtain ⟨got, row, Fu, G, hOu, hndu, hdu, hbu, hltG, hltF, fzG, fzF, R, hR, hctx⟩ := unhide HW
    have hbm : b ∈ w1.heap.size :: G := by
      rcases hbu with rfl | hbu
      · exact List.mem_cons_self ..
      · exact List.mem_cons_of_mem _ hbu
    have hb2 := (hltG b hbm).2
    have hb3 := (hltG b hbm).1
    have g8 := (OwC.read x gs Fx hO4).cells
    have g1 := (OwC.read x gs Fx hO4).one
    have u8 := (OwC.read u us Fu hOu).cells
    have hTb2 : W2.there b o 8 := fun j hj => ⟨by rw [row j _ (List.getElem?_eq_getElem (by omega))]; rfl, fzG b hbm _⟩
    have s3 := b3.size
    have hTb : w4.there b o gs.toArray.size := by
      rw [show gs.toArray.size = 8 by simp [g8]]
      exact there_below (there_below hTb2 b3 hb2) b4 (by omega)
    have i8' : (Try.prog.info? 27).map (·.size) = some gs.toArray.size := by simp [g8, infoV]
    obtain ⟨W5, e5⟩ : ∃ W5, W5 = w4.setCells b o gs := ⟨_, rfl⟩
    have ag5 : AgreeBut (w1.heap.size :: G) b o W2 W5 := fun c hc j hj => by
      have hc2 := (hltG c hc).2
      rw [e5, World.cell?_setCells_out _ _ _ _ _ (fun h _ => by
        have h : c = b := h
        show j < o ∨ o + gs.length ≤ j
        rw [g8]
        rcases hj with hj | hj
        · exact absurd h hj
        · exact hj)]
      exact (b4.cell (p := ⟨c, j, none⟩) (by show c < w3.heap.size; omega)).trans (b3.cell (p := ⟨c, j, none⟩) hc2)
    have row5 : Row8 W5 b o gs := by rw [e5]; exact World.rangeAt_setCells_same _ _ _ _ (by have := hTb; rw [show gs.toArray.size = gs.length by simp] at this; exact this)
    have val5 : VlC W5 x gs := by
      rw [e5]
      refine OwC.read x gs Fx (OwC.agree x gs Fx (agree_setCells w4 fun h => ?_) hO4)
      have := (hFx b h).1
      omega
    obtain ⟨hs, hrow5, hval5⟩ := hctx W5 x gs ag5 row5 val5
    have hW6 : ∀ W9 : World, (∀ c j, w.heap.size + 3 ≤ c → c < W5.heap.size → W9.cell? ⟨c, j, none⟩ = W5.cell? ⟨c, j, none⟩) → ∃ hs', Row8 W9 w1.heap.size 0 hs' ∧ VlC W9 (R x) hs' := fun W9 out => by
      have hs5' : W5.heap.size = w4.heap.size := by rw [e5]; exact size_setCells _ _ _ _
      have s4' := b4.size
      refine hctx _ x gs (fun c hc j hj => (out c j (hltG c hc).1 (by have := (hltG c hc).2; omega)).trans (ag5 c hc j hj)) (fun j y hy => (out b (o + j) hb3 (by omega)).trans (row5 j y hy)) ?_
      refine OwC.read x gs Fx (OwC.agree x gs Fx (fun c hc j => ?_) hO4)
      have h1 := hFx c hc
      rw [out c j (by omega) (by omega), e5]
      exact World.cell?_setCells_out _ _ _ _ _ (fun e _ => by have e : c = b := e; omega)
    have HW6 := hide hW6
    have hset := hR x
    rw [List.take_of_length_le (Nat.le_of_eq hlen)] at hset
    have bb5 : Below (w.heap.size + 3) w3 W5 := by rw [e5]; exact below_setCells _ _ _ _ (b4.mono (by omega)) hb3
    have hs5 : W5.heap.size = w4.heap.size := by rw [e5]; exact size_setCells _ _ _ _
    have s4 := b4.size
    have hT5 : W5.there (w.heap.size + 1 + 1) 0 8 := there_below (unhide HT3) bb5 (by omega)
    have h8s := hval5.cells
    have h1s := hval5.one
    have i5 : (Try.prog.info? 27).map (·.size) = some hs.length := by rw [h8s]; exact infoV
    have i5' : (Try.prog.info? 27).map (·.size) = some hs.toArray.size := by simp [h8s, infoV]
    have hT5' : W5.there (w.heap.size + 1 + 1) 0 hs.toArray.size := by rw [show hs.toArray.size = 8 by simp [h8s]]; exact hT5
    have H5 := hide (And.intro hTb (And.intro i8' (And.intro hrow5 (And.intro i5 (And.intro i5' (And.intro hT5' hval5))))))
    have E5 := hide e5
    have Hset := hide hset
    clear hW6 hTb hTb2 i8' hrow5 i5 i5' hT5 hT5' hval5 e5 hset ag5 row5 val5 hOu hctx hR row got hO4 h8s g8 u8 hndu hdu hbu hltG hltF fzG fzF hbm hFx
    go_wp2_with (first
      | refine wpList_store_mid (by rfl) 27 _ _ (by rfl) b o gs.toArray (by rfl) (by rfl) (unhide H5).1 (unhide H5).2.1 g1 ?_
      | refine wpList_load_mid (by rfl) 27 _ (by rfl) w1.heap.size 0 (by rfl) hs _ (by rw [← unhide E5]; exact (unhide H5).2.2.1) Try.underlying27 (by rfl) (unhide H5).2.2.2.1 ?_
      | refine wpList_store_mid (by rfl) 27 _ _ (by rfl) (w.heap.size + 1 + 1) 0 hs.toArray (by rfl) (by rfl) (by rw [← unhide E5]; exact (unhide H5).2.2.2.2.2.1) (unhide H5).2.2.2.2.1 h1s ?_)
    rw [← unhide E5]
    obtain ⟨hTb, i8', hrow5, i5, i5', hT5', hval5⟩ := unhide H5
    have hr4 : (W5.setCells (w.heap.size + 1 + 1) 0 hs).rangeAt (w.heap.size + 1 + 1) 0 hs := World.rangeAt_setCells_same _ _ _ _ hT5'
    refine bodyPost_ret (rgn.result_row_tmp rfl _ _ (w.heap.size + 1 + 1) 0 hs _ rfl hr4 Try.underlying27 rfl i5) rfl ?_
    have hfr : FrC w.heap.size (W5.setCells (w.heap.size + 1 + 1) 0 hs) (R x) hs := fun W9 hW9 => by
      obtain ⟨hs', hrow6, hval6⟩ := unhide HW6 W9 (fun c j h1 h2 => by
        rw [hW9 c j (by omega) (by rw [size_setCells]; exact h2)]
        exact World.cell?_setCells_out _ _ _ _ _ (fun e _ => by have e : c = w.heap.size + 1 + 1 := e; omega))
      have hsz5 : w1.heap.size < W5.heap.size := by omega
      obtain rfl : hs = hs' := row_uniq (fun j y hy => by
        rw [hW9 w1.heap.size (0 + j) (by omega) (by rw [size_setCells]; exact hsz5), World.cell?_setCells_out _ _ _ _ _ (fun h _ => by have h : w1.heap.size = w.heap.size + 1 + 1 := h; omega)]
        exact hrow5 j y hy) hrow6 (by rw [hval5.cells, hval6.cells])
      exact hval6
    exact ⟨below_setCells _ _ _ _ (bb3.trans (bb5.mono (by omega))) (by omega), true, R x, hs, rfl, hfr, by rw [if_pos rfl]; exact unhide Hset⟩
end Go.Proofs.Ytiblkdedbimggaa.vl
namespace Go.Proofs.Ytiblkdedbimggaa.mem
set_option linter.unusedVariables false

def b52 : Nat := 4503599627370496
def b53 : Nat := 9007199254740992
def infR : Nat := 9218868437227405312
def sgnR : Nat := 9223372036854775808
/-- The unit, and what is left of it above 52 bits: two to the power of 1074 and of 1022. -/
def e22 : Nat := 1022
theorem e22_eq : e22 = 1022 := rfl
def k22 : Nat := 2 ^ e22
def k74 : Nat := 2 ^ (52 + e22)
theorem k22_pos : 0 < k22 := Nat.two_pow_pos e22
theorem b52_eq : b52 = 2 ^ 52 := rfl
theorem k74_eq : k74 = b52 * k22 := by
  unfold k74 k22
  rw [Nat.pow_add, b52_eq]
/-- A float without its sign, by its bits, is mantR times two to the power of exR, in units of the least float. -/
def mantR (r : Nat) : Nat := if r < b52 then r else b52 + r % b52
def exR (r : Nat) : Nat := r / b52 - 1
def vR (r : Nat) : Nat := mantR r * 2 ^ exR r
theorem vR_succ (r : Nat) : vR (r + 1) = vR r + 2 ^ exR r := by
  unfold vR mantR exR b52
  by_cases h : r < 4503599627370496
  · have e0 : r / 4503599627370496 - 1 = 0 := by omega
    rw [if_pos h, e0]
    by_cases h1 : r + 1 < 4503599627370496
    · have e1 : (r + 1) / 4503599627370496 - 1 = 0 := by omega
      rw [if_pos h1, e1]; simp
    · have e1 : (r + 1) / 4503599627370496 - 1 = 0 := by omega
      rw [if_neg h1, e1]; simp; omega
  · rw [if_neg h, if_neg (by omega)]
    by_cases h1 : (r + 1) % 4503599627370496 = 0
    · have e1 : (r + 1) / 4503599627370496 - 1 = (r / 4503599627370496 - 1) + 1 := by omega
      have e2 : r % 4503599627370496 = 4503599627370495 := by omega
      rw [h1, e1, e2, Nat.pow_succ]
      generalize 2 ^ (r / 4503599627370496 - 1) = p
      omega
    · have e1 : (r + 1) / 4503599627370496 = r / 4503599627370496 := by omega
      have e2 : (r + 1) % 4503599627370496 = r % 4503599627370496 + 1 := by omega
      rw [e1, e2, ← Nat.add_assoc, Nat.add_mul _ 1, Nat.one_mul]
theorem vR_mono {a b : Nat} (h : a < b) : vR a < vR b := by
  induction b with
  | zero => omega
  | succ b ih =>
    rw [vR_succ]
    have := Nat.two_pow_pos (exR b)
    by_cases e : a = b
    · rw [e]; omega
    · have := ih (by omega); omega
theorem vR_mono_le {a b : Nat} (h : a ≤ b) : vR a ≤ vR b := by
  rcases Nat.lt_or_ge a b with h1 | h1
  · exact Nat.le_of_lt (vR_mono h1)
  · rw [show a = b by omega]; exact Nat.le_refl _

/-- lo is the greatest float not above P over B (P in units of the least float). -/
def Lo (P B lo : Nat) : Prop := B * vR lo ≤ P ∧ P < B * vR (lo + 1)
theorem Lo.unique {P B a b : Nat} (h : Lo P B a) (h' : Lo P B b) : a = b := by
  rcases Nat.lt_trichotomy a b with hl | hl | hl
  · have := Nat.mul_le_mul_left B (vR_mono_le (show a + 1 ≤ b by omega))
    have := h.2; have := h'.1; omega
  · exact hl
  · have := Nat.mul_le_mul_left B (vR_mono_le (show b + 1 ≤ a by omega))
    have := h'.2; have := h.1; omega
def roundR (P B lo : Nat) : Nat := if B * (2 * vR lo + 2 ^ exR lo) < 2 * P ∨ (2 * P = B * (2 * vR lo + 2 ^ exR lo) ∧ lo % 2 = 1) then lo + 1 else lo

/-- The whole numbers' floats. -/
def loN (n : Nat) : Nat := (n.log2 + e22) * b52 + n * b52 / 2 ^ n.log2
theorem q_bd {n : Nat} (h : n ≠ 0) : b52 ≤ n * b52 / 2 ^ n.log2 ∧ n * b52 / 2 ^ n.log2 < b53 := by
  have h1 := Nat.log2_self_le h
  have h2 := Nat.lt_log2_self (n := n)
  have hp := Nat.two_pow_pos n.log2
  constructor
  · rw [Nat.le_div_iff_mul_le hp, Nat.mul_comm]
    exact Nat.mul_le_mul_right _ h1
  · rw [Nat.div_lt_iff_lt_mul hp]
    rw [Nat.pow_succ] at h2
    unfold b52 b53
    omega
theorem loN_parts {n : Nat} (h : n ≠ 0) : exR (loN n) = n.log2 + e22 ∧ mantR (loN n) = n * b52 / 2 ^ n.log2 ∧ loN n % 2 = (n * b52 / 2 ^ n.log2) % 2 := by
  obtain ⟨h1, h2⟩ := q_bd h
  unfold exR mantR loN
  generalize n * b52 / 2 ^ n.log2 = q at *
  generalize n.log2 = L at *
  unfold b52 b53 at *
  refine ⟨by omega, ?_, by omega⟩
  rw [if_neg (by omega)]
  omega
theorem loN_lo {n : Nat} (h : n ≠ 0) : Lo (n * k74) 1 (loN n) := by
  obtain ⟨h1, h2, -⟩ := loN_parts h
  have hp := Nat.two_pow_pos n.log2
  have hd := Nat.div_add_mod (n * b52) (2 ^ n.log2)
  have hm := Nat.mod_lt (n * b52) hp
  have hk := k22_pos
  have e : n * k74 = n * b52 * k22 := by rw [k74_eq, Nat.mul_assoc]
  unfold Lo
  rw [vR_succ, Nat.one_mul, Nat.one_mul]
  unfold vR
  rw [h1, h2, e, Nat.pow_add, show 2 ^ e22 = k22 from rfl]
  generalize n * b52 / 2 ^ n.log2 = q at *
  generalize n * b52 % 2 ^ n.log2 = t at *
  generalize n * b52 = m at *
  generalize 2 ^ n.log2 = g at *
  generalize k22 = k at *
  have e2 : q * (g * k) = (g * q) * k := by rw [← Nat.mul_assoc, Nat.mul_comm q g]
  rw [e2, ← Nat.add_mul]
  constructor
  · exact Nat.mul_le_mul_right _ (by omega)
  · exact Nat.mul_lt_mul_of_pos_right (by omega) hk

theorem cut_none (neg : Bool) (n : Nat) : Ieee.Toward.even.cut neg n 0 = n := by
  unfold Ieee.Toward.cut
  simp [Nat.mod_one]
theorem cut_some (neg : Bool) {n d : Nat} (h : d ≤ n.log2 + 2) : Ieee.Toward.even.cut neg n d = n / 2 ^ d + (decide (2 ^ d < 2 * (n % 2 ^ d)) || (2 ^ d == 2 * (n % 2 ^ d) && (n / 2 ^ d) % 2 == 1)).toNat := by
  unfold Ieee.Toward.cut
  simp only [Nat.min_eq_left h, Nat.shiftLeft_eq, Nat.one_mul]
theorem round_exact {P lo : Nat} (h : P = vR lo) : roundR P 1 lo = lo := by
  unfold roundR
  have := Nat.two_pow_pos (exR lo)
  rw [if_neg]
  omega
theorem min_small {L q : Nat} (hL : L < 64) (hq : q ≤ b53) : min ((L + e22) * b52 + q) infR = (L + e22) * b52 + q := by
  have := e22_eq
  unfold b52 b53 infR at *
  omega
theorem nearest_int (neg : Bool) {n : Nat} (h : n ≠ 0) (hn : n < 2 ^ 64) : Ieee.double.nearest neg n 0 = Ieee.double.word neg (roundR (n * k74) 1 (loN n)) := by
  have hL : n.log2 < 64 := (Nat.log2_lt h).2 hn
  obtain ⟨p1, p2, p3⟩ := loN_parts h
  obtain ⟨b1, b2⟩ := q_bd h
  have hp := Nat.two_pow_pos n.log2
  have hk := k22_pos
  have e : n * k74 = n * b52 * k22 := by rw [k74_eq, Nat.mul_assoc]
  unfold Ieee.Format.nearest
  rw [if_neg h]
  have hlast : max ((0 : Int) + n.log2 - Ieee.double.fractionBits) (-1074) = (n.log2 : Int) - 52 := by
    unfold Ieee.double
    simp only
    omega
  have hlp : Ieee.double.leastPlace = -1074 := by rfl
  have hbn : Ieee.double.binade = b52 := by rfl
  have hinf : Ieee.double.infRung = infR := by rfl
  simp only [hlp, hlast, hbn, hinf]
  refine congrArg (Ieee.double.word neg) ?_
  have hT : ((n.log2 : Int) - 52 - -1074).toNat = n.log2 + e22 := by rw [e22_eq]; omega
  rw [hT]
  by_cases h52 : n.log2 ≤ 52
  · have e1 : ((n.log2 : Int) - 52 - 0).toNat = 0 := by omega
    have e2 : ((0 : Int) - ((n.log2 : Int) - 52)).toNat = 52 - n.log2 := by omega
    rw [e1, e2, cut_none, Nat.shiftLeft_eq]
    have eb : b52 = 2 ^ (52 - n.log2) * 2 ^ n.log2 := by rw [← Nat.pow_add, show 52 - n.log2 + n.log2 = 52 by omega]; rfl
    have eq : n * b52 / 2 ^ n.log2 = n * 2 ^ (52 - n.log2) := by
      rw [eb, ← Nat.mul_assoc, Nat.mul_div_cancel _ hp]
    have ev : n * k74 = vR (loN n) := by
      unfold vR
      rw [p1, p2, eq, e, eb, Nat.pow_add, show 2 ^ e22 = k22 from rfl]
      rw [← Nat.mul_assoc, ← Nat.mul_assoc]
    rw [round_exact ev]
    unfold loN
    rw [eq] at b1 b2 ⊢
    exact min_small hL (Nat.le_of_lt b2)
  · have hLL : n.log2 = (n.log2 - 52) + 52 := by omega
    have e1 : ((n.log2 : Int) - 52 - 0).toNat = n.log2 - 52 := by omega
    have e2 : ((0 : Int) - ((n.log2 : Int) - 52)).toNat = 0 := by omega
    rw [e1, e2, Nat.shiftLeft_zero, cut_some neg (by omega)]
    have hg := Nat.two_pow_pos (n.log2 - 52)
    have eL : 2 ^ n.log2 = 2 ^ (n.log2 - 52) * b52 := by
      conv => lhs; rw [hLL]
      rw [Nat.pow_add]; rfl
    have eq : n * b52 / 2 ^ n.log2 = n / 2 ^ (n.log2 - 52) := by
      rw [eL]
      exact Nat.mul_div_mul_right _ _ (by decide)
    have hdm := Nat.div_add_mod n (2 ^ (n.log2 - 52))
    have hml := Nat.mod_lt n hg
    have hr : roundR (n * k74) 1 (loN n) = loN n + (decide (2 ^ (n.log2 - 52) < 2 * (n % 2 ^ (n.log2 - 52))) || (2 ^ (n.log2 - 52) == 2 * (n % 2 ^ (n.log2 - 52)) && (n / 2 ^ (n.log2 - 52)) % 2 == 1)).toNat := by
      unfold roundR vR
      rw [p1, p2, p3, eq, e, Nat.pow_add, eL, show 2 ^ e22 = k22 from rfl]
      generalize n / 2 ^ (n.log2 - 52) = q at *
      generalize n % 2 ^ (n.log2 - 52) = t at *
      generalize 2 ^ (n.log2 - 52) = g at *
      generalize k22 = k at *
      have f1 : 1 * (2 * (q * (g * b52 * k)) + g * b52 * k) = (2 * (g * q) + g) * (b52 * k) := by
        rw [Nat.one_mul, Nat.add_mul, Nat.mul_assoc g b52 k, Nat.mul_assoc 2 (g * q), ← Nat.mul_assoc q g, Nat.mul_comm q g]
      have f2 : 2 * (n * b52 * k) = (2 * n) * (b52 * k) := by rw [Nat.mul_assoc n, Nat.mul_assoc 2]
      have hbk : 0 < b52 * k := Nat.mul_pos (by decide) hk
      rw [f1, f2]
      generalize b52 * k = j at *
      have g1 : (2 * (g * q) + g) * j < 2 * n * j ↔ g < 2 * t := by
        rw [Nat.mul_lt_mul_right hbk]; omega
      have g2 : 2 * n * j = (2 * (g * q) + g) * j ↔ g = 2 * t := by
        rw [Nat.mul_right_cancel_iff hbk]; omega
      simp only [g1, g2]
      by_cases c1 : g < 2 * t
      · simp [c1]
      · by_cases c2 : g = 2 * t
        · by_cases c3 : q % 2 = 1
          · simp [c2, c3]
          · have : ¬ (g < 2 * t ∨ g = 2 * t ∧ q % 2 = 1) := by omega
            rw [if_neg this]
            simp [c2, c3]
        · have : ¬ (g < 2 * t ∨ g = 2 * t ∧ q % 2 = 1) := by omega
          rw [if_neg this]
          simp [c1, c2]
    rw [hr]
    unfold loN
    rw [eq] at b1 b2 ⊢
    generalize (decide (2 ^ (n.log2 - 52) < 2 * (n % 2 ^ (n.log2 - 52))) || (2 ^ (n.log2 - 52) == 2 * (n % 2 ^ (n.log2 - 52)) && (n / 2 ^ (n.log2 - 52)) % 2 == 1)) = bb at *
    have hb1 := Bool.toNat_le bb
    rw [Nat.add_assoc]
    exact min_small hL (by unfold b53 at b2 ⊢; omega)
end Go.Proofs.Ytiblkdedbimggaa.mem
namespace Go.Proofs.Ytiblkdedbimggaa.mem
set_option linter.unusedVariables false

def sv (ng : Bool) (v : Nat) : Int := if ng then -(v : Int) else (v : Int)
theorem dec_fin (ng : Bool) (r : Nat) (h : r < 9218868437227405312) : FloatKind.f64.decode (Ieee.double.word ng r) = .number ng (mantR r) ((exR r : Int) - 1074) := by
  have hs : Ieee.double.signWeight = 9223372036854775808 := by rfl
  have hb : Ieee.double.binade = b52 := by rfl
  have hi : Ieee.double.infRung = 9218868437227405312 := by rfl
  have hl : Ieee.double.leastPlace = -1074 := by rfl
  have e1 : Ieee.double.word ng r / 9223372036854775808 % 2 = ng.toNat ∧ Ieee.double.word ng r % 9223372036854775808 = r := by
    unfold Ieee.Format.word
    rw [hs]
    cases ng
    · simp; omega
    · simp; omega
  show Ieee.double.read _ = _
  unfold Ieee.Format.read
  simp only [hs, hb, hi, hl, e1.1, e1.2]
  have e2 : (ng.toNat == 1) = ng := by cases ng <;> rfl
  rw [e2]
  unfold mantR exR
  by_cases h0 : r < b52
  · rw [if_pos h0, if_pos h0]
    have : r / b52 = 0 := Nat.div_eq_of_lt h0
    rw [this]; rfl
  · rw [if_neg h0, if_neg h0, if_pos h]
    have : 1 ≤ r / b52 := Nat.div_pos (by omega) (by decide)
    congr 1
theorem dec_inf (ng : Bool) : FloatKind.f64.decode (Ieee.double.word ng 9218868437227405312) = .infinity ng := by
  have hs : Ieee.double.signWeight = 9223372036854775808 := by rfl
  have hb : Ieee.double.binade = b52 := by rfl
  have hi : Ieee.double.infRung = 9218868437227405312 := by rfl
  have e1 : Ieee.double.word ng 9218868437227405312 / 9223372036854775808 % 2 = ng.toNat ∧ Ieee.double.word ng 9218868437227405312 % 9223372036854775808 = 9218868437227405312 := by
    unfold Ieee.Format.word
    rw [hs]
    cases ng <;> simp
  show Ieee.double.read _ = _
  unfold Ieee.Format.read
  simp only [hs, hb, hi, e1.1, e1.2]
  have e2 : (ng.toNat == 1) = ng := by cases ng <;> rfl
  rw [e2, if_neg (by unfold b52; omega), if_neg (by omega)]
  simp only [if_true]
theorem dec_nan (ng : Bool) (r : Nat) (h : 9218868437227405312 < r) (h2 : r < 9223372036854775808) : ∃ f, FloatKind.f64.decode (Ieee.double.word ng r) = .nan ng f := by
  have hs : Ieee.double.signWeight = 9223372036854775808 := by rfl
  have hb : Ieee.double.binade = b52 := by rfl
  have hi : Ieee.double.infRung = 9218868437227405312 := by rfl
  have e1 : Ieee.double.word ng r / 9223372036854775808 % 2 = ng.toNat ∧ Ieee.double.word ng r % 9223372036854775808 = r := by
    unfold Ieee.Format.word
    rw [hs]
    cases ng
    · simp; omega
    · simp; omega
  refine ⟨r - 9218868437227405312, ?_⟩
  show Ieee.double.read _ = _
  unfold Ieee.Format.read
  simp only [hs, hb, hi, e1.1, e1.2]
  have e2 : (ng.toNat == 1) = ng := by cases ng <;> rfl
  rw [e2, if_neg (by unfold b52; omega), if_neg (by omega), if_neg (by omega)]
theorem word_of (x : Nat) (h : x < 18446744073709551616) : Ieee.double.word (decide (9223372036854775808 ≤ x)) (x % 9223372036854775808) = x := by
  have hs : Ieee.double.signWeight = 9223372036854775808 := by rfl
  unfold Ieee.Format.word
  rw [hs]
  by_cases hx : 9223372036854775808 ≤ x
  · simp [hx]; omega
  · simp [hx]; omega
theorem signed_eq (ng : Bool) (m u : Nat) : Ieee.signed ng m u = sv ng (m * 2 ^ u) := by
  unfold Ieee.signed sv
  rw [Nat.shiftLeft_eq]
theorem sv_mul (ng : Bool) (v k : Nat) : sv ng (v * k) = sv ng v * (k : Int) := by
  unfold sv
  cases ng
  · simp
  · simp only [if_true]; rw [Int.natCast_mul, Int.neg_mul]
theorem compare_mul (a b : Int) (k : Nat) (hk : 0 < k) : compare (a * (k : Int)) (b * (k : Int)) = compare a b := by
  have hk' : (0 : Int) < (k : Int) := by omega
  rcases Int.lt_trichotomy a b with h | h | h
  · rw [Int.compare_eq_lt.2 h, Int.compare_eq_lt.2 (Int.mul_lt_mul_of_pos_right h hk')]
  · subst h; rw [Int.compare_eq_eq.2 rfl, Int.compare_eq_eq.2 rfl]
  · rw [Int.compare_eq_gt.2 h, Int.compare_eq_gt.2 (Int.mul_lt_mul_of_pos_right h hk')]
/-- Two finite numbers by their values in units of the least float. -/
theorem order_fin (s t : Bool) (m n i j : Nat) : (Ieee.Datum.number s m ((i : Int) - 1074)).order (.number t n ((j : Int) - 1074)) = some (compare (sv s (m * 2 ^ i)) (sv t (n * 2 ^ j))) := by
  unfold Ieee.Datum.order
  simp only [signed_eq, Option.some.injEq]
  have e1 : ((i : Int) - 1074 - min ((i : Int) - 1074) ((j : Int) - 1074)).toNat = i - min i j := by omega
  have e2 : ((j : Int) - 1074 - min ((i : Int) - 1074) ((j : Int) - 1074)).toNat = j - min i j := by omega
  rw [e1, e2, ← compare_mul _ _ (2 ^ min i j) (Nat.two_pow_pos _), ← sv_mul, ← sv_mul, Nat.mul_assoc, Nat.mul_assoc, ← Nat.pow_add, ← Nat.pow_add,
    show i - min i j + min i j = i by omega, show j - min i j + min i j = j by omega]
theorem order_word (s t : Bool) (a b : Nat) (ha : a < 9218868437227405312) (hb : b < 9218868437227405312) : FloatKind.f64.format.order (Ieee.double.word s a) (Ieee.double.word t b) = some (compare (sv s (vR a)) (sv t (vR b))) := by
  show (FloatKind.f64.decode _).order (FloatKind.f64.decode _) = _
  rw [dec_fin s a ha, dec_fin t b hb, order_fin]
  rfl
end Go.Proofs.Ytiblkdedbimggaa.mem
namespace Go.Proofs.Ytiblkdedbimggaa.vl
open Go.ChangeShapes Go.WideShapes Go.ChangeAt Go.RowKit
open mem
set_option linter.unusedVariables false
def nanF (x : Nat) : Bool := decide (9218868437227405312 < x % 9223372036854775808)
theorem ordSelf (x : Nat) (h : x < 18446744073709551616) : (FloatKind.f64.format.order x x != some Ordering.eq) = nanF x ∧ (FloatKind.f64.format.order x x == some Ordering.eq) = !nanF x := by
  have key : (FloatKind.f64.format.order x x == some Ordering.eq) = !nanF x := by
    have hw := word_of x h
    obtain ⟨r, hr⟩ : ∃ r, r = x % 9223372036854775808 := ⟨_, rfl⟩
    obtain ⟨ng, hng⟩ : ∃ ng, ng = decide (9223372036854775808 ≤ x) := ⟨_, rfl⟩
    have hrl : r < 9223372036854775808 := by omega
    unfold nanF
    rw [← hr]
    rw [← hr, ← hng] at hw
    clear hr hng
    rw [← hw]
    show ((FloatKind.f64.decode _).order (FloatKind.f64.decode _) == some Ordering.eq) = _
    rcases Nat.lt_trichotomy r 9218868437227405312 with h1 | h1 | h1
    · rw [dec_fin ng r h1, order_fin, Int.compare_eq_eq.2 rfl, decide_eq_false (by omega)]; rfl
    · subst h1
      rw [dec_inf, decide_eq_false (by omega)]
      cases ng <;> rfl
    · obtain ⟨f, hf⟩ := dec_nan ng r h1 hrl
      rw [hf, decide_eq_true h1]; rfl
  refine ⟨?_, key⟩
  show (!(FloatKind.f64.format.order x x == some Ordering.eq)) = _
  rw [key]
  cases nanF x <;> rfl
theorem ordZero (x : Nat) (h : x < 18446744073709551616) (h0 : x % 9223372036854775808 ≠ 0) : (FloatKind.f64.format.order x 0 == some Ordering.eq) = false := by
  have hw := word_of x h
  obtain ⟨r, hr⟩ : ∃ r, r = x % 9223372036854775808 := ⟨_, rfl⟩
  obtain ⟨ng, hng⟩ : ∃ ng, ng = decide (9223372036854775808 ≤ x) := ⟨_, rfl⟩
  have hrl : r < 9223372036854775808 := by omega
  rw [← hr] at h0
  rw [← hr, ← hng] at hw
  clear hr hng
  rw [← hw]
  have hz : FloatKind.f64.decode 0 = .number false (mantR 0) ((exR 0 : Int) - 1074) := dec_fin false 0 (by omega)
  show ((FloatKind.f64.decode _).order (FloatKind.f64.decode 0) == some Ordering.eq) = _
  rw [hz]
  rcases Nat.lt_trichotomy r 9218868437227405312 with h1 | h1 | h1
  · rw [dec_fin ng r h1, order_fin]
    have hm : 0 < mantR r * 2 ^ exR r := Nat.mul_pos (by unfold mantR; split <;> (unfold b52 at *; omega)) (Nat.two_pow_pos _)
    have hm0 : mantR 0 * 2 ^ exR 0 = 0 := by simp [mantR, b52]
    rw [hm0]
    generalize mantR r * 2 ^ exR r = M at *
    have : compare (sv ng M) (sv false 0) ≠ Ordering.eq := fun e => by
      have := Int.compare_eq_eq.1 e
      cases ng <;> simp [sv] at this <;> omega
    simp [this]
  · subst h1
    rw [dec_inf]
    cases ng <;> rfl
  · obtain ⟨f, hf⟩ := dec_nan ng r h1 hrl
    rw [hf]; rfl
end Go.Proofs.Ytiblkdedbimggaa.vl
namespace Go.Proofs.Ytiblkdedbimggaa.vl
open Go.ChangeShapes Go.WideShapes Go.ChangeAt Go.RowKit
set_option linter.unusedVariables false
set_option linter.unusedSimpArgs false
set_option maxHeartbeats 4000000 in
/-- SameFloat of a float and itself -/
theorem sf_ok (f : Nat) (hf : f < 18446744073709551616) (w : World) : Calls Try.prog 29 #[.float .f64 f, .float .f64 f] w fun e w' => e = .returned (.bool true) ∧ Below w.heap.size w w' := by
  obtain ⟨hs1, hs2⟩ := ordSelf f hf
  cases hN : nanF f with
  | true =>
    rw [hN] at hs1 hs2
    go_enter Try.func29, Try.ntmps29
    go_wp2
    go_ret
    exact ⟨rfl, Below.refl _ _⟩
  | false =>
    rw [hN] at hs1 hs2
    clear hN
    by_cases h0 : f % 9223372036854775808 = 0
    · rcases (by omega : f = 0 ∨ f = 9223372036854775808) with rfl | rfl
      · have hz : (FloatKind.f64.format.order 0 0 == some Ordering.eq) = true := by decide
        have hq : ∀ w, (binOp .quo 23 (.float .f64 4607182418800017408) (.float .f64 0)).run Try.prog w = .ok (.float .f64 9218868437227405312) w := fun w => run_float_arith w _ _ _ _ _ _ (by decide)
        have hi : (FloatKind.f64.format.order 9218868437227405312 9218868437227405312 == some Ordering.eq) = true := by decide
        clear hf h0 hs1 hs2
        have hz' : (FloatKind.f64.format.order 0 0 != some Ordering.eq) = false := by decide
        go_enter Try.func29, Try.ntmps29
        go_wp2
        go_ret
        exact ⟨rfl, Below.refl _ _⟩
      · have hz : (FloatKind.f64.format.order 9223372036854775808 0 == some Ordering.eq) = true := by decide
        have hq : ∀ w, (binOp .quo 23 (.float .f64 4607182418800017408) (.float .f64 9223372036854775808)).run Try.prog w = .ok (.float .f64 18442240474082181120) w := fun w => run_float_arith w _ _ _ _ _ _ (by decide)
        have hi : (FloatKind.f64.format.order 18442240474082181120 18442240474082181120 == some Ordering.eq) = true := by decide
        clear hf h0 hs2
        go_enter Try.func29, Try.ntmps29
        go_wp2
        go_ret
        exact ⟨rfl, Below.refl _ _⟩
    · have hz := ordZero f hf h0
      clear h0 hf
      go_enter Try.func29, Try.ntmps29
      go_wp2
      go_ret
      exact ⟨rfl, Below.refl _ _⟩
end Go.Proofs.Ytiblkdedbimggaa.vl
