import Derived.Test.YtjlafneklcfgoabVlP1
import Derived.Test.YtjlafneklcfgoabVlQ2
namespace Go.Proofs.Ytjlafneklcfgoab.vl
open Go.ChangeShapes Go.WideShapes Go.ChangeAt Go.RowKit
open stp (St Pth St3)
set_option linter.unusedVariables false
set_option linter.unusedSimpArgs false
set_option maxHeartbeats 6000000 in
set_option maxRecDepth 6000 in
theorem rget_ok (v : Vl) (cs : List Value) (w : World) (hv : VlC w v cs) (hsm : Small v) (ap : Option Addr) (n c : Nat) (ss : List St) (hp : Pth w ap n ss) (hn : n ≤ 4611686018427387903) :
    Calls Try.prog 11 #[.agg cs.toArray, .slice ap n c] w fun e w' => Below w.heap.size w w' ∧ ∃ (ok : Bool) (u : Vl) (ds : List Value), e = .returned (.tuple #[.agg ds.toArray, .bool ok]) ∧ FrC w.heap.size w' u ds ∧ (if ok = true then getP v ss = some u else getP v ss = none ∧ u = z0) := by
  obtain ⟨W, eW⟩ : ∃ W, W = ((w.alloc (.cells cs.toArray 27)).alloc (.cells #[.int .i64 0, .bool false, .int .i64 0, .float .f64 0, .string { data := #[] }, .string { data := #[] }, .slice none 0 0, .slice none 0 0] 27)) := ⟨_, rfl⟩
  have bW : Below w.heap.size w W := by rw [eW]; exact ((Below.refl _ _).alloc (Nat.le_refl _) _).alloc (by simp) _
  have hsz : W.heap.size = w.heap.size + 2 := by rw [eW]; simp
  have hrow : Row8 W w.heap.size 0 cs := fun j u hu => by
    rw [Nat.zero_add, eW, World.cell?_alloc_past _ _ _ (by simp), World.cell?_alloc_at _ _ _ _ rfl]; simpa using hu
  have hmay : W.there w.heap.size 0 8 := by rw [eW]; exact World.there_alloc (there_new (by simp [hv.cells])) _
  have hth : W.there (w.heap.size + 1) 0 8 := by
    rw [eW]
    have h := there_new (w := w.alloc (.cells cs.toArray 27)) (Z := #[.int .i64 0, .bool false, .int .i64 0, .float .f64 0, .string { data := #[] }, .string { data := #[] }, .slice none 0 0, .slice none 0 0]) (t := 27) (n := 8) rfl
    simpa using h
  have EW := hide eW
  have HP := hide hp
  have HH := hide (And.intro hv (And.intro hrow (And.intro hmay hth)))
  clear eW hrow hmay hth hv hp
  go_enter Try.func11, Try.ntmps11
  go_wp2_with fail
  rw [← unhide EW]
  clear EW
  go_loopw [6] (fun vi wr => ∃ (k : Nat) (u : Vl) (us : List Value), k ≤ n ∧ vi = .int .i64 k ∧ getP v (ss.take k) = some u ∧ VlC w u us ∧ Row8 wr w.heap.size 0 us ∧ wr.there w.heap.size 0 8 ∧ wr.there (w.heap.size + 1) 0 8 ∧ Below w.heap.size w wr ∧ w.heap.size + 2 ≤ wr.heap.size) (fun vi _ => n - (intOf vi).toNat)
  case atStart => exact ⟨0, v, cs, Nat.zero_le _, rfl, rfl, (unhide HH).1, (unhide HH).2.1, (unhide HH).2.2.1, (unhide HH).2.2.2, bW, Nat.le_of_eq hsz.symm⟩
  case round =>
    obtain ⟨k, u, us, hk, rfl, hgt, hu, hrow, hmay, hth, hB, hs⟩ := hrel
    by_cases hlt : k < n
    · have ki : (k : Int) < (n : Int) := by omega
      obtain ⟨bp, offp, rfl, hbp, hst⟩ : ∃ bp off, ap = some ⟨bp, off, none⟩ ∧ bp < w.heap.size ∧ ∀ i, i < n → ∃ s, ss[i]? = some s ∧ St3 w bp (off + i * 3) s.nm s.ix s.it := by
        rcases (unhide HP).at_ with h | h
        · omega
        · exact h
      obtain ⟨s, hs', h3⟩ := hst k hlt
      clear hst
      have h3' := h3.below hbp hB
      obtain ⟨nm, ix, it⟩ := s
      have Hs := hide hs'
      have iu : (Try.prog.info? 27).map (·.size) = some us.length := by rw [hu.cells]; exact infoV
      have hbp' : bp < wr.heap.size := Nat.lt_of_lt_of_le hbp hB.size
      have HX := hide (And.intro hgt (And.intro hu (And.intro hrow (And.intro hmay (And.intro hth (And.intro hB (And.intro iu h3')))))))
      clear hs' hgt hu hrow hmay hth hB h3' h3 iu
      go_wp2_with fail
      have hS0 : Below wr.heap.size wr { wr with drawn := wr.drawn + 1 } := (Below.refl _ _).drew
      refine wp_region_noPanic ?_
      refine wp_region_held (S := fun w' => Below wr.heap.size wr w') mixed ?_
      refine wpAnyH_take (i := 0) rfl (by kernel_rfl) (by kernel_rfl) (by kernel_rfl) (fun _ _ _ h => h) (yieldsIf_load_mid (by rfl) 27 _ (by rfl) w.heap.size 0 (by rfl) us _ (fun w' hw' => Row8.below (unhide HX).2.2.1 hw') Try.underlying27 (by rfl) (unhide HX).2.2.2.2.2.2.1) hS0 ?_
      simp only [List.getElem_toArray, List.getElem_cons_zero, List.getElem_cons_succ, Act.put, List.setIfInBounds_toArray, List.set_cons_zero, List.set_cons_succ]
      refine wpAnyH_take (i := 1) (v := ?v1) rfl (by kernel_rfl) (by kernel_rfl) (by kernel_rfl) (fun _ _ _ h => h) (Or.inl ⟨by rfl, ?hy1⟩) hS0 ?_
      case hy1 => (intro w' hw'; obtain ⟨q0, q1, q2⟩ := (unhide HX).2.2.2.2.2.2.2.below hbp' hw'; go_simp; try with_reducible rfl)
      simp only [List.getElem_toArray, List.getElem_cons_zero, List.getElem_cons_succ, Act.put, List.setIfInBounds_toArray, List.set_cons_zero, List.set_cons_succ]
      refine wpAnyH_take (i := 2) (v := ?v2) rfl (by kernel_rfl) (by kernel_rfl) (by kernel_rfl) (fun _ _ _ h => h) (Or.inl ⟨by rfl, ?hy2⟩) hS0 ?_
      case hy2 => (intro w' hw'; obtain ⟨q0, q1, q2⟩ := (unhide HX).2.2.2.2.2.2.2.below hbp' hw'; go_simp; try with_reducible rfl)
      simp only [List.getElem_toArray, List.getElem_cons_zero, List.getElem_cons_succ, Act.put, List.setIfInBounds_toArray, List.set_cons_zero, List.set_cons_succ]
      refine wpAnyH_take (i := 3) (v := ?v3) rfl (by kernel_rfl) (by kernel_rfl) (by kernel_rfl) (fun _ _ _ h => h) (Or.inl ⟨by rfl, ?hy3⟩) hS0 ?_
      case hy3 => (intro w' hw'; obtain ⟨q0, q1, q2⟩ := (unhide HX).2.2.2.2.2.2.2.below hbp' hw'; go_simp; try with_reducible rfl)
      simp only [List.getElem_toArray, List.getElem_cons_zero, List.getElem_cons_succ, Act.put, List.setIfInBounds_toArray, List.set_cons_zero, List.set_cons_succ]
      refine wpAnyH_take (i := 4) (v := ?v4) rfl (by kernel_rfl) (by kernel_rfl) (by kernel_rfl) (fun _ _ _ h => h) (Or.inl ⟨by rfl, ?hy4⟩) hS0 ?_
      case hy4 => (intro w' hw'; obtain ⟨q0, q1, q2⟩ := (unhide HX).2.2.2.2.2.2.2.below hbp' hw'; go_simp; try with_reducible rfl)
      simp only [List.getElem_toArray, List.getElem_cons_zero, List.getElem_cons_succ, Act.put, List.setIfInBounds_toArray, List.set_cons_zero, List.set_cons_succ]
      refine rgn.one (i := 5) _ rfl (by kernel_rfl) (by rfl) ?_
      simp only [List.getElem_toArray, List.getElem_cons_zero, List.getElem_cons_succ, Act.put, List.setIfInBounds_toArray, List.set_cons_zero, List.set_cons_succ]
      go_wp2_with fail
      obtain ⟨hgt, hu, hrow, hmay, hth, hB, iu, h3⟩ := unhide HX
      clear HX
      refine (find_ok u us ⟨nm, ix, it⟩ _ (VlC.below (hB.trans (hS0.mono hB.size)) u us hu)).mono ?_
      rintro e w1 ⟨b1, rfl⟩
      have hS0 : Below wr.heap.size wr w1 := hS0.trans b1
      have bb1 : Below w.heap.size w w1 := hB.trans (hS0.mono hB.size)
      have hrow1 := Row8.below hrow hS0
      have hmay1 := there_below hmay hS0 (by omega)
      have hth1 := there_below hth hS0 (by omega)
      have hs1 := Nat.le_trans hs hS0.size
      obtain ⟨q0, q1, q2⟩ := h3.below hbp' hS0
      clear hrow hmay hth h3 b1
      refine ⟨hS0, ?_⟩
      cases hc : chI u ⟨nm, ix, it⟩ with
      | none =>
        have hno := hide (getP_none hgt (unhide Hs) hc)
        have HT := hide hth1
        clear hu hc hgt hrow1 hmay1 hth1
        refine wpAnyH_take (i := 6) (v := ?v5) rfl (by kernel_rfl) (by kernel_rfl) (by kernel_rfl) (fun _ _ _ h => h) (Or.inl ⟨by rfl, ?hy5⟩) hS0 ?_
        case hy5 => (intro w' hw';  go_simp; try with_reducible rfl)
        simp only [List.getElem_toArray, List.getElem_cons_zero, List.getElem_cons_succ, Act.put, List.setIfInBounds_toArray, List.set_cons_zero, List.set_cons_succ]
        refine wpAnyH_done (by kernel_rfl) ?_ _; refine NoPanic.normal ?_
        go_wp2_with (first
          | refine wpList_store_mid (by rfl) 27 _ _ (by rfl) (w.heap.size + 1) 0 z8.toArray (by rfl) (by rfl) (unhide HT) z8i z8o ?_)
        have hr4 : (w1.setCells (w.heap.size + 1) 0 z8).rangeAt (w.heap.size + 1) 0 z8 := World.rangeAt_setCells_same _ _ _ _ (unhide HT)
        refine bodyPost_ret (rgn.result_row_tmp rfl _ _ (w.heap.size + 1) 0 z8 _ rfl hr4 Try.underlying27 rfl z8i) rfl ?_
        exact ⟨below_setCells _ _ _ _ bb1 (Nat.le_succ _), false, z0, z8, rfl, FrC.of (OwC.zero _) (by simp), by simp; exact unhide hno⟩
      | some i =>
        have hneg : decide (((i : Nat) : Int) < 0) = false := by simp
        refine wpAnyH_take (i := 6) (v := ?v6) rfl (by kernel_rfl) (by kernel_rfl) (by kernel_rfl) (fun _ _ _ h => h) (Or.inl ⟨by rfl, ?hy6⟩) hS0 ?_
        case hy6 => (intro w' hw';  go_simp; try with_reducible rfl)
        simp only [List.getElem_toArray, List.getElem_cons_zero, List.getElem_cons_succ, Act.put, List.setIfInBounds_toArray, List.set_cons_zero, List.set_cons_succ]
        refine wpAnyH_done (by kernel_rfl) ?_ _; refine NoPanic.normal ?_
        cases it with
        | true =>
          obtain ⟨kd, bb, ni, f, tx, ty, its, fls⟩ := u
          have hgS : getS (.mk kd bb ni f tx ty its fls) ⟨nm, ix, true⟩ = its.list[i]? := by simp only [getS, hc]; rfl
          rw [chI_mk] at hc
          have hu0 := hu
          unfold VlC at hu0
          obtain ⟨ai, nI, ci, af, nf, cf, rfl, hI, hF, hni, hnf, hai, haf, hw1, hw2, hw3, hw4, hci, hcf⟩ := hu0
          rw [if_pos rfl] at hc
          by_cases hcc : kd = 5 ∧ 0 ≤ ix ∧ ix < its.list.length
          rotate_left
          · rw [if_neg hcc] at hc; cases hc
          rw [if_pos hcc] at hc
          obtain rfl := Option.some.inj hc
          have hlen := VlsAt.len its _ _ hI
          have hin : ix.toNat < nI := by omega
          obtain ⟨p, off, u', us', rfl, hg', hr', hv'⟩ := VlsAt.get its _ nI hI ix.toNat hin
          have x6 : w1.cell? ⟨w.heap.size, 6, none⟩ = some (.slice (some ⟨p, off, none⟩) nI ci) := hrow1 6 _ rfl
          generalize ix.toNat = i at *
          have ii : ((i : Nat) : Int) < (nI : Int) := by omega
          have i0 : (0 : Int) ≤ ((i : Nat) : Int) := by omega
          clear hcc hlen
          have gTo : getP v (ss.take (k + 1)) = some u' := by rw [getP_take hgt (unhide Hs)]; exact hgS.trans hg'
          have r1 : Row8 w1 p (off + i * 8) us' := Row8.below hr' bb1
          have A := hide (And.intro r1 (And.intro (show (Try.prog.info? 27).map (·.size) = some us'.length by rw [hv'.cells]; exact infoV) (show (Try.prog.info? 27).map (·.size) = some us'.toArray.size by simp [hv'.cells, infoV])))
          have d1 := hv'.one
          have hT1 := hide (show w1.there w.heap.size 0 us'.toArray.size by rw [show us'.toArray.size = 8 by simp [hv'.cells]]; exact hmay1)
          have K := hide (And.intro gTo (And.intro hv' hr'))
          clear r1 hr' hv' gTo hgS hI hF hc hu hmay1 hgt
          go_wp2_with (first
            | refine wpList_load_mid (by rfl) 27 _ (by rfl) p (off + i * 8) (by rfl) us' _ (unhide A).1 Try.underlying27 (by rfl) (unhide A).2.1 ?_
            | refine wpList_store_mid (by rfl) 27 _ _ (by rfl) w.heap.size 0 us'.toArray (by rfl) (by rfl) (unhide hT1) (unhide A).2.2 d1 ?_)
          refine ⟨⟨k + 1, u', us', by omega, by go_num, (unhide K).1, (unhide K).2.1, ?_, World.there_setCells (by have h := unhide hT1; rwa [show us'.toArray.size = 8 by simp [(unhide K).2.1.cells]] at h) _ _ _, World.there_setCells hth1 _ _ _, below_setCells _ _ _ _ bb1 (Nat.le_refl _), by rw [size_setCells]; exact hs1⟩, by simp only [intOf]; omega⟩
          exact World.rangeAt_setCells_same _ _ _ _ (unhide hT1)
        | false =>
          obtain ⟨kd, bb, ni, f, tx, ty, its, fls⟩ := u
          have hgS : getS (.mk kd bb ni f tx ty its fls) ⟨nm, ix, false⟩ = (fls.list[i]?).map (·.2) := by simp only [getS, hc]; rfl
          rw [chI_mk] at hc
          have hu0 := hu
          unfold VlC at hu0
          obtain ⟨ai, nI, ci, af, nf, cf, rfl, hI, hF, hni, hnf, hai, haf, hw1, hw2, hw3, hw4, hci, hcf⟩ := hu0
          rw [if_neg (by simp)] at hc
          by_cases hcc : kd = 6
          rotate_left
          · rw [if_neg hcc] at hc; cases hc
          rw [if_pos hcc] at hc
          obtain ⟨q, hq, _⟩ := findIdx_get hc
          have hlen := FlsAt.len fls _ _ hF
          have hin : i < nf := by rw [← hlen]; exact (List.getElem?_eq_some_iff.1 hq).1
          obtain ⟨p, off, nm', u', us', rfl, hg', _, _, hr', hv'⟩ := FlsAt.get fls _ nf hF i hin
          have x7 : w1.cell? ⟨w.heap.size, 7, none⟩ = some (.slice (some ⟨p, off, none⟩) nf cf) := hrow1 7 _ rfl
          have ii : ((i : Nat) : Int) < (nf : Int) := by omega
          have i0 : (0 : Int) ≤ ((i : Nat) : Int) := by omega
          clear hcc hlen hq
          have gTo : getP v (ss.take (k + 1)) = some u' := by rw [getP_take hgt (unhide Hs)]; exact hgS.trans (by rw [hg']; rfl)
          have r1 : Row8 w1 p (off + i * 9 + 1) us' := Row8.below hr' bb1
          have A := hide (And.intro r1 (And.intro (show (Try.prog.info? 27).map (·.size) = some us'.length by rw [hv'.cells]; exact infoV) (show (Try.prog.info? 27).map (·.size) = some us'.toArray.size by simp [hv'.cells, infoV])))
          have d1 := hv'.one
          have hT1 := hide (show w1.there w.heap.size 0 us'.toArray.size by rw [show us'.toArray.size = 8 by simp [hv'.cells]]; exact hmay1)
          have K := hide (And.intro gTo (And.intro hv' hr'))
          clear r1 hr' hv' gTo hgS hI hF hc hu hmay1 hgt
          go_wp2_with (first
            | refine wpList_load_mid (by rfl) 27 _ (by rfl) p (off + i * 9 + 1) (by rfl) us' _ (unhide A).1 Try.underlying27 (by rfl) (unhide A).2.1 ?_
            | refine wpList_store_mid (by rfl) 27 _ _ (by rfl) w.heap.size 0 us'.toArray (by rfl) (by rfl) (unhide hT1) (unhide A).2.2 d1 ?_)
          refine ⟨⟨k + 1, u', us', by omega, by go_num, (unhide K).1, (unhide K).2.1, ?_, World.there_setCells (by have h := unhide hT1; rwa [show us'.toArray.size = 8 by simp [(unhide K).2.1.cells]] at h) _ _ _, World.there_setCells hth1 _ _ _, below_setCells _ _ _ _ bb1 (Nat.le_refl _), by rw [size_setCells]; exact hs1⟩, by simp only [intOf]; omega⟩
          exact World.rangeAt_setCells_same _ _ _ _ (unhide hT1)
    · obtain rfl : k = n := by omega
      have hlen := (unhide HP).len
      have hg' := hide (show getP v ss = some u by rwa [List.take_of_length_le (Nat.le_of_eq hlen)] at hgt)
      have hr1 := hide hrow
      have hu1 := hide (VlC.below hB u us hu)
      have Hi8 := hide (show (Try.prog.info? 27).map (·.size) = some us.length by rw [hu.cells]; exact infoV)
      have hT1 := hide hth
      clear hgt hrow hth hlen hu hmay
      go_wp2_with (first
        | refine wpList_load_mid (by rfl) 27 _ (by rfl) w.heap.size 0 (by rfl) us _ (unhide hr1) Try.underlying27 (by rfl) (unhide Hi8) ?_)
      have hsu := Small.getP hsm (unhide hg')
      refine (rcopy_ok u hsu us wr (unhide hu1)).mono ?_
      rintro e w2 ⟨ds, F, rfl, hO2, hnd, hF, b2, -⟩
      have hT2 : w2.there (w.heap.size + 1) 0 ds.toArray.size := by
        rw [show ds.toArray.size = 8 by simp [(OwC.read u ds F hO2).cells]]
        exact there_below (unhide hT1) b2 (by omega)
      have i8 : (Try.prog.info? 27).map (·.size) = some ds.toArray.size := by simp [(OwC.read u ds F hO2).cells, infoV]
      have d1 := (OwC.read u ds F hO2).one
      have HT := hide hT2
      have HI := hide i8
      have HO := hide hO2
      clear hT2 i8 hO2
      go_wp2_with (first
        | refine wpList_store_mid (by rfl) 27 _ _ (by rfl) (w.heap.size + 1) 0 ds.toArray (by rfl) (by rfl) (unhide HT) (unhide HI) d1 ?_)
      have hr4 : (w2.setCells (w.heap.size + 1) 0 ds).rangeAt (w.heap.size + 1) 0 ds := World.rangeAt_setCells_same _ _ _ _ (unhide HT)
      refine bodyPost_ret (rgn.result_row_tmp rfl _ _ (w.heap.size + 1) 0 ds _ rfl hr4 Try.underlying27 rfl (unhide HI)) rfl ?_
      have hnF : w.heap.size + 1 ∉ F := fun h => by have := (hF _ h).1; omega
      exact ⟨below_setCells _ _ _ _ (hB.trans (b2.mono hB.size)) (Nat.le_succ _), true, u, ds, rfl, FrC.of (OwC.agree u ds F (agree_setCells w2 hnF) (unhide HO)) (fun b hb => by have h1 := hF b hb; rw [size_setCells]; omega), by rw [if_pos rfl]; exact unhide hg'⟩
end Go.Proofs.Ytjlafneklcfgoab.vl
