import Derived.Test.YtjlafneklcfgoabVlL1
namespace Go.Proofs.Ytjlafneklcfgoab.vl
open Go.ChangeShapes Go.WideShapes Go.ChangeAt Go.RowKit
open stp (St Pth St3)
set_option linter.unusedVariables false
set_option linter.unusedSimpArgs false
theorem getP_app : ∀ (l r : List St) (v : Vl), getP v (l ++ r) = (getP v l).bind fun u => getP u r
  | [], r, v => rfl
  | s :: l, r, v => by
    simp only [List.cons_append, getP]
    cases getS v s with
    | none => rfl
    | some u => simpa using getP_app l r u
theorem getP_one (v : Vl) (s : St) : getP v [s] = getS v s := by
  simp only [getP]
  cases getS v s <;> rfl
theorem getP_take {v u : Vl} {ss : List St} {k : Nat} {s : St} (h : getP v (ss.take k) = some u) (hs : ss[k]? = some s) : getP v (ss.take (k + 1)) = getS u s := by
  rw [List.take_add_one, hs, getP_app, h]
  exact getP_one u s
theorem getS_none {v : Vl} {s : St} (h : chI v s = none) : getS v s = none := by
  cases v
  simp only [getS, h]
theorem getP_none {v u : Vl} {ss : List St} {k : Nat} {s : St} (h : getP v (ss.take k) = some u) (hs : ss[k]? = some s) (hc : chI u s = none) : getP v ss = none := by
  have h1 := getP_take h hs
  rw [getS_none hc] at h1
  rw [← List.take_append_drop (k + 1) ss, getP_app, h1]
  rfl
theorem Small.getS {v u : Vl} {s : St} (hv : Small v) (h : getS v s = some u) : Small u := by
  obtain ⟨kd, bb, ni, f, tx, ty, its, fls⟩ := v
  unfold Small at hv
  simp only [vl.getS] at h
  cases hc : chI (.mk kd bb ni f tx ty its fls) s with
  | none => rw [hc] at h; cases h
  | some i =>
    rw [hc] at h
    simp only at h
    by_cases ht : s.it = true
    · rw [if_pos ht] at h
      exact hv.2.2.2.1.all u (List.mem_of_getElem? h)
    · rw [if_neg ht, Option.map_eq_some_iff] at h
      obtain ⟨q, hq, rfl⟩ := h
      exact hv.2.2.2.2.all q (List.mem_of_getElem? hq)
theorem Small.getP : ∀ {ss : List St} {v u : Vl}, Small v → getP v ss = some u → Small u
  | [], v, u, hv, h => by simp only [vl.getP, Option.some.injEq] at h; rw [← h]; exact hv
  | s :: r, v, u, hv, h => by
    simp only [vl.getP] at h
    cases hs : vl.getS v s with
    | none => rw [hs] at h; cases h
    | some x => rw [hs] at h; exact Small.getP (hv.getS hs) h
/-- the empty value -/
def z8 : List Value := [.int .i64 0, .bool false, .int .i64 0, .float .f64 0, .string { data := #[] }, .string { data := #[] }, .slice none 0 0, .slice none 0 0]
theorem z8i : (Try.prog.info? 27).map (·.size) = some z8.toArray.size := by simp [z8, infoV]
theorem z8o : z8.toArray.all (·.oneCell') = true := by simp [z8, Value.oneCell']
def z0 : Vl := .mk 0 false 0 0 { data := #[] } { data := #[] } .nil .nil
theorem OwC.zero (w : World) : OwC w z0 z8 [] := by
  unfold z0 OwC
  exact ⟨none, 0, 0, none, 0, 0, [], [], rfl, .inl ⟨rfl, rfl, rfl, rfl⟩, .inl ⟨rfl, rfl, rfl, rfl⟩, Nat.le_refl _, Nat.le_refl _, fun _ => rfl, fun _ => rfl, rfl, rfl, Nat.zero_le _, Nat.zero_le _, Nat.zero_le _, Nat.zero_le _, rfl⟩
set_option maxHeartbeats 6000000 in
set_option maxRecDepth 6000 in
theorem get_ok (v : Vl) (cs : List Value) (w : World) (hv : VlC w v cs) (hsm : Small v) (ap : Option Addr) (n c : Nat) (ss : List St) (hp : Pth w ap n ss) (hn : n ≤ 4611686018427387903) :
    Calls Try.prog 9 #[.agg cs.toArray, .slice ap n c] w fun e w' => Below w.heap.size w w' ∧ ∃ (ok : Bool) (u : Vl) (ds : List Value), e = .returned (.tuple #[.agg ds.toArray, .bool ok]) ∧ FrC w.heap.size w' u ds ∧ (if ok = true then getP v ss = some u else getP v ss = none ∧ u = z0) := by
  have hnil : ∀ (w : World) (a : Option Addr), (binOp .eql 64 (.pointer a) (.pointer none)).run Try.prog w = .ok (.bool a.isNone) w := by
    intro w a
    cases a <;> go_simp
  have HV := hide hv
  have HP := hide hp
  have h8 := hide hv.cells
  clear hv hp
  go_enter Try.func9, Try.ntmps9
  go_wp2_with fail
  obtain ⟨W, eW⟩ : ∃ W, W = ((w.alloc (.cells cs.toArray 27)).alloc (.cells #[.int .i64 0, .bool false, .int .i64 0, .float .f64 0, .string { data := #[] }, .string { data := #[] }, .slice none 0 0, .slice none 0 0] 27)) := ⟨_, rfl⟩
  have bW : Below w.heap.size w W := by rw [eW]; exact ((Below.refl _ _).alloc (Nat.le_refl _) _).alloc (by simp) _
  have hsz : W.heap.size = w.heap.size + 2 := by rw [eW]; simp
  have hrow : Row8 W w.heap.size 0 cs := fun j u hu => by
    rw [Nat.zero_add, eW, World.cell?_alloc_past _ _ _ (by simp), World.cell?_alloc_at _ _ _ _ rfl]; simpa using hu
  have hth : W.there (w.heap.size + 1) 0 8 := by
    rw [eW]
    have h := there_new (w := w.alloc (.cells cs.toArray 27)) (Z := #[.int .i64 0, .bool false, .int .i64 0, .float .f64 0, .string { data := #[] }, .string { data := #[] }, .slice none 0 0, .slice none 0 0]) (t := 27) (n := 8) rfl
    simpa using h
  rw [← eW]
  clear eW
  have hvW := VlC.below bW v cs (unhide HV)
  refine (lead_ok (fun k b o u us => getP v (ss.take k) = some u ∧ Row8 W b o us ∧ VlC W u us) W ap n c ss ((unhide HP).below bW) hn w.heap.size 0 v cs ⟨rfl, hrow, hvW⟩ (fun k b o u us h => h.2) (fun k b o u us s i b' o' h hs hc hl => by
    obtain ⟨u', us', h1, h2, h3⟩ := h.2.2.child hc hl
    exact ⟨u', us', by rw [getP_take h.1 hs]; exact h1, h2, h3⟩)).mono ?_
  rintro e w1 ⟨b1, h1⟩
  have hlen := (unhide HP).len
  have hT1 := hide (there_below hth b1 (by omega))
  rcases h1 with ⟨k, b, o, u, us, s, ⟨hg, -, -⟩, hs, hc, rfl⟩ | ⟨b, o, u, us, ⟨hg, hr, hu⟩, rfl⟩
  · have hno := hide (getP_none hg hs hc)
    clear hg hs hc hrow hvW hth hlen
    go_wp2_with (first
      | refine wpList_store_mid (by rfl) 27 _ _ (by rfl) (w.heap.size + 1) 0 z8.toArray (by rfl) (by rfl) (unhide hT1) z8i z8o ?_)
    have hr4 : (w1.setCells (w.heap.size + 1) 0 z8).rangeAt (w.heap.size + 1) 0 z8 := World.rangeAt_setCells_same _ _ _ _ (unhide hT1)
    refine bodyPost_ret (rgn.result_row_tmp rfl _ _ (w.heap.size + 1) 0 z8 _ rfl hr4 Try.underlying27 rfl z8i) rfl ?_
    exact ⟨below_setCells _ _ _ _ (bW.trans (b1.mono bW.size)) (Nat.le_succ _), false, z0, z8, rfl, FrC.of (OwC.zero _) (by simp), by simp; exact unhide hno⟩
  · have hg' := hide (show getP v ss = some u by rwa [List.take_of_length_le (Nat.le_of_eq hlen)] at hg)
    have hr1 := hide (Row8.below hr b1)
    have hu1 := hide (VlC.below b1 u us hu)
    have hi8 : (Try.prog.info? 27).map (·.size) = some us.length := by rw [hu.cells]; exact infoV
    have Hi8 := hide hi8
    clear hg hrow hvW hth hlen hr hu hi8
    go_wp2_with (first
      | refine wpList_load_mid (by rfl) 27 _ (by rfl) b o (by rfl) us _ (unhide hr1) Try.underlying27 (by rfl) (unhide Hi8) ?_)
    have hsu := Small.getP hsm (unhide hg')
    refine (copy_ok u hsu us w1 (unhide hu1)).mono ?_
    rintro e w2 ⟨ds, F, rfl, hO2, hnd, hF, b2, -⟩
    have hT2 : w2.there (w.heap.size + 1) 0 ds.toArray.size := by
      rw [show ds.toArray.size = 8 by simp [(OwC.read u ds F hO2).cells]]
      exact there_below (unhide hT1) b2 (by have := b1.size; omega)
    have i8 : (Try.prog.info? 27).map (·.size) = some ds.toArray.size := by simp [(OwC.read u ds F hO2).cells, infoV]
    have d1 := (OwC.read u ds F hO2).one
    have HT := hide hT2
    have HI := hide i8
    have HO := hide hO2
    clear hT2 i8 hO2
    go_wp2_with (first
      | refine wpList_store_mid (by rfl) 27 _ _ (by rfl) (w.heap.size + 1) 0 ds.toArray (by rfl) (by rfl) (unhide HT) (unhide HI) d1 ?_)
    have hr4 : (w2.setCells (w.heap.size + 1) 0 ds).rangeAt (w.heap.size + 1) 0 ds := World.rangeAt_setCells_same _ _ _ _ (unhide HT)
    refine bodyPost_ret (rgn.result_row_tmp rfl _ _ (w.heap.size + 1) 0 ds _ rfl hr4 Try.underlying27 rfl (unhide HI)) rfl ?_
    have hnF : w.heap.size + 1 ∉ F := fun h => by have := (hF _ h).1; have := b1.size; omega
    exact ⟨below_setCells _ _ _ _ ((bW.trans (b1.mono bW.size)).trans (b2.mono (Nat.le_trans bW.size b1.size))) (Nat.le_succ _), true, u, ds, rfl, FrC.of (OwC.agree u ds F (agree_setCells w2 hnF) (unhide HO)) (fun b hb => by have h1 := hF b hb; have h2 := b1.size; rw [size_setCells]; omega), by rw [if_pos rfl]; exact unhide hg'⟩
end Go.Proofs.Ytjlafneklcfgoab.vl
