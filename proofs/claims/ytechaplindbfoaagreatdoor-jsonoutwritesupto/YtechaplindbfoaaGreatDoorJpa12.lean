import Derived.Test.YtechaplindbfoaaGreatDoorJpa11
import Derived.Test.YtechaplindbfoaaGreatDoorJpa9
import Derived.Test.YtechaplindbfoaaGreatDoorJpa10
import Derived.WalkLawsBesides
import Derived.Test.YtechaplindbfoaaGreatDoorJpa7
namespace Go.Proofs.YtechaplindbfoaaGreatDoor.vl
open Go.ChangeShapes Go.WideShapes Go.ChangeAt Go.RowKit
open mem
open ints (hide unhide)
open jsn (litV litI litF jkV zrV ffB feB jkI jkF litI_len litF_len litI_at litF_at wt_pos)
set_option linter.unusedVariables false
set_option linter.unusedSimpArgs false
set_option maxHeartbeats 6000000 in
set_option maxRecDepth 6000 in
theorem lit_obj (bb : Bool) (ni : Int) (f : Nat) (tx ty : ByteArray) (its : Vls) (fls : Fls) (ihF : ∀ q ∈ fls.list, LitAt q.2) : LitAt (.mk 6 bb ni f tx ty its fls) := by
  intro N cs w hv n0 n1
  have hN := wf_n n0 (by have := wt_pos (.mk 6 bb ni f tx ty its fls); omega)
  rw [wtV] at n1
  unfold VlC at hv
  obtain ⟨ai, nI, ci, af, nf, cf, rfl, -, hF, -, hnf, -, -, hk1, -, -, -, -, hcf⟩ := hv
  have hlF := FlsAt.len fls _ _ hF
  have hlM := litF_len fls N
  have hsf := storeFr
  have hwF := jsn.wtF_sum fls
  have hwp : ∀ q : ByteArray × Vl, 1 ≤ q.1.size + wtV q.2 := fun q => by have := wt_pos q.2; omega
  have bF : nf ≤ 549755813888 + 1000 := by
    have := take_ge (fun q : ByteArray × Vl => q.1.size + wtV q.2) hwp fls.list
    rw [← hwF, hlF] at this
    omega
  obtain ⟨B, hB⟩ : ∃ B : Bool, B = (Int.tmod N 2 == 0) := ⟨_, rfl⟩
  obtain ⟨W, eW⟩ : ∃ W, W = (((((w.alloc (.cells #[.int .i64 6, .bool bb, .int .i64 ni, .float .f64 f, .string tx, .string ty, .slice ai nI ci, .slice af nf cf] 29)).alloc (.cells #[.int .i64 0, .bool false, .int .i64 0, .float .f64 0, .string { data := #[] }, .string { data := #[] }, .slice none 0 0, .slice none 0 0] 29)).alloc (.cells jkC.toArray 29)).alloc (.cells jmC.toArray 45)).alloc (.cells ([.int .i64 6, .bool B, .int .i64 N, .float .f64 4602678819172646912, .string ⟨#[255]⟩, .string ⟨#[254]⟩, .slice (some ⟨w.heap.size + 1 + 1, 0, none⟩) 1 1, .slice none 0 0] : List Value).toArray 29)) := ⟨_, rfl⟩
  have hV0 : LV w (.slice ai nI ci) (.slice af nf cf) [.int .i64 6, .bool B, .int .i64 N, .float .f64 4602678819172646912, .string ⟨#[255]⟩, .string ⟨#[254]⟩, .slice (some ⟨w.heap.size + 1 + 1, 0, none⟩) 1 1, .slice none 0 0] W := by
    rw [eW]
    exact (LV.new w _ _ _ _ _ _ _ _ (#[.int .i64 0, .bool false, .int .i64 0, .float .f64 0, .string { data := #[] }, .string { data := #[] }, .slice none 0 0, .slice none 0 0] : Array Value).toList _ rfl rfl).1
  have EW := hide (show W = (((((w.alloc (.cells #[.int .i64 6, .bool bb, .int .i64 ni, .float .f64 f, .string tx, .string ty, .slice ai nI ci, .slice af nf cf] 29)).alloc (.cells #[.int .i64 0, .bool false, .int .i64 0, .float .f64 0, .string { data := #[] }, .string { data := #[] }, .slice none 0 0, .slice none 0 0] 29)).alloc (.cells #[.int .i64 9, .bool false, .int .i64 0, .float .f64 0, .string { data := #[] }, .string { data := #[] }, .slice none 0 0, .slice none 0 0] 29)).alloc (.cells #[.string { data := #[255] }, .int .i64 0, .bool false, .int .i64 0, .float .f64 0, .string { data := #[] }, .string { data := #[] }, .slice none 0 0, .slice none 0 0, .string { data := #[255] }, .int .i64 0, .bool false, .int .i64 0, .float .f64 0, .string { data := #[] }, .string { data := #[] }, .slice none 0 0, .slice none 0 0] 45)).alloc (.cells #[.int .i64 6, .bool (Int.tmod N 2 == 0), .int .i64 N, .float .f64 4602678819172646912, .string { data := #[255] }, .string { data := #[254] }, .slice (some ⟨w.heap.size + 1 + 1, 0, none⟩) 1 1, .slice none 0 0] 29)) from by rw [eW, hB]; rfl)
  have HB := hide hB
  have HF := hide (And.intro hF (And.intro hlF hlM))
  clear eW hF hlF hlM hB hnf hcf
  have nI0 : -9223372036854775808 ≤ N := by omega
  have nI1 : N ≤ 9223372036854775807 := by omega
  go_enter Tryz.func19, Tryz.ntmps19
  go_wp2_with fail
  rw [← unhide EW]
  clear EW
  go_loopw [8] (fun vi wr => ∃ (q : Nat) (sm : Value) (H : List Nat), q ≤ nf ∧ vi = .int .i64 q ∧ Hid (LV w (.slice ai nI ci) (.slice af nf cf) [.int .i64 6, .bool B, .int .i64 N, .float .f64 4602678819172646912, .string ⟨#[255]⟩, .string ⟨#[254]⟩, .slice (some ⟨w.heap.size + 1 + 1, 0, none⟩) 1 1, sm] wr) ∧ Hid (Grow OwM 45 9 wr (w.heap.size + 5) ((litF N fls).list.take q) sm H)) (fun vi _ => nf - (intOf vi).toNat)
  case atStart => exact ⟨0, .slice none 0 0, [], Nat.zero_le _, rfl, hide hV0, hide (by rw [List.take_zero]; exact Grow.nil)⟩
  case round =>
    obtain ⟨q, sm, H, hq, rfl, hV, hH⟩ := hrel
    have x7 := (unhide hV).i7
    by_cases hlt : q < nf
    · have ki : (q : Int) < (nf : Int) := by omega
      obtain ⟨p, off, nm, v, us, rfl, hg, hn0, hnz, hr, hv⟩ := FlsAt.get fls _ nf (unhide HF).1 q hlt
      have hsum := jsn.sum_snoc (fun q : ByteArray × Vl => q.1.size + wtV q.2) fls.list q _ hg
      have hge := take_ge (fun q : ByteArray × Vl => q.1.size + wtV q.2) hwp (fls.list.take q)
      rw [List.length_take, (unhide HF).2.1, Nat.min_eq_left hq] at hge
      simp only at hsum
      have hcop := hide (fun W' hv' => ihF (nm, v) (List.mem_of_getElem? hg) (N + q) us W' hv' (by omega) (by simp only; omega))
      have hr' := hide (Row8.below hr (unhide hV).bel)
      have hv' := hide (VlC.below (unhide hV).bel v us hv)
      have iu := hide (show (Tryz.prog.info? 29).map (·.size) = some us.length by rw [hv.cells]; exact infoV)
      have hpl := World.block_lt_of_cell? w _ hn0
      have hn1 := hide (keepC (unhide hV).bel hpl hn0)
      have Hg := hide (litF_at fls N q _ hg)
      have kb : N + (q : Int) ≤ 9223372036854775807 := by omega
      have ka : -9223372036854775808 ≤ N + (q : Int) := by omega
      clear hr hv hg hn0 hsum hge
      go_wp2_with (first
        | refine wpList_load_mid (by rfl) 29 _ (by rfl) p (off + q * 9 + 1) (by rfl) us _ (unhide hr') Tryz.underlying29 (by rfl) (unhide iu) ?_)
      refine ((unhide hcop) wr (unhide hv')).mono ?_
      generalize litV (N + q) v = v2 at *
      rintro e w1 ⟨ds, F, rfl, hO1, hnd1, hF1, b1, z1⟩
      obtain ⟨V, eV⟩ : ∃ V, V = (w1.alloc (.cells #[.int .i64 0, .bool false, .int .i64 0, .float .f64 0, .string { data := #[] }, .string { data := #[] }, .slice none 0 0, .slice none 0 0] 29)).setCells w1.heap.size 0 ds := ⟨_, rfl⟩
      have d8 := (OwC.read v2 ds F hO1).cells
      have d1 := (OwC.read v2 ds F hO1).one
      have th : (w1.alloc (.cells #[.int .i64 0, .bool false, .int .i64 0, .float .f64 0, .string { data := #[] }, .string { data := #[] }, .slice none 0 0, .slice none 0 0] 29)).there w1.heap.size 0 ds.toArray.size := there_new (by simp [d8])
      have b2 : Below w1.heap.size w1 V := by rw [eV]; exact below_setCells _ _ _ _ ((Below.refl _ _).alloc (Nat.le_refl _) _) (Nat.le_refl _)
      have hrV : V.rangeAt w1.heap.size 0 ds := by rw [eV]; exact World.rangeAt_setCells_same _ _ _ _ (by simpa using th)
      have sV1 : V.heap.size = w1.heap.size + 1 := by rw [eV, size_setCells]; simp
      have s1 := b1.size
      have sV := (unhide hV).siz
      have V2 := ((unhide hV).below (b1.mono sV)).below (b2.mono (by omega))
      have H2 := ((unhide hH).below agM b1).below agM b2
      have O2 : OwC V v2 ds F := OwC.agree v2 ds F (Agree.of_below b2 (fun b hb => (hF1 b hb).2)) hO1
      have z2 := z1.below b2 (fun b hb => (hF1 b hb).2)
      have hown := fun b (hb : sm.ownBlock = some b) => (let ⟨xss, hr, _⟩ := (unhide hH).row; (hr.lt b hb).2)
      have hr2 : ∀ b ∈ F, w.heap.size + 5 ≤ b ∧ b < V.heap.size ∧ b ∉ H ∧ sm.ownBlock ≠ some b := fun b hb => by
        have h1 := hF1 b hb
        refine ⟨by omega, by omega, fun h => ?_, fun h => ?_⟩
        · have := ((unhide hH).rng b h).2; omega
        · have := hown b h; omega
      have hlen : ((litF N fls).list.take q).length = q := by rw [List.length_take, (unhide HF).2.2, (unhide HF).2.1]; omega
      obtain ⟨i0, z0', hi0, hz0, hs0, hb0, hc0⟩ := infoMz
      have i8 : (Tryz.prog.info? 29).map (·.size) = some ds.toArray.size := by simp [d8, infoV]
      have hn2 := keepC b2 (by omega) (keepC b1 (by have := (unhide hV).bel.size; omega) (unhide hn1))
      have A := hide (And.intro th (And.intro hrV i8))
      have EV := hide eV
      have HV2 := hide V2
      clear eV hrV i8 th V2 x7 hr' hv' iu hcop hn1
      go_wp2_with (first
        | (refine wpList_store_mid (by rfl) 29 _ _ (by rfl) w1.heap.size 0 ds.toArray (by rfl) (by rfl) (unhide A).1 (unhide A).2.2 d1 ?_; rw [show (w1.alloc (.cells #[.int .i64 0, .bool false, .int .i64 0, .float .f64 0, .string { data := #[] }, .string { data := #[] }, .slice none 0 0, .slice none 0 0] 29)).setCells w1.heap.size 0 ds.toArray.toList = V from (unhide EV).symm]))
      have hS0 : Below (w.heap.size + 1 + 1 + 1 + 1) V { V with drawn := V.drawn + 1 } ∧ ({ V with drawn := V.drawn + 1 } : World).rangeAt w1.heap.size 0 ds := ⟨(Below.refl _ _).drew, (unhide A).2.1⟩
      have y7 := (unhide HV2).i7
      have i8' : (Tryz.prog.info? 29).map (·.size) = some ds.length := by rw [d8]; exact infoV
      refine wp_region_noPanic ?_
      refine wp_region_held (S := fun w' => Below (w.heap.size + 1 + 1 + 1 + 1) V w' ∧ w'.rangeAt w1.heap.size 0 ds) mixed ?_
      refine wpAnyH_take (i := 0) (v := ?v1) rfl (by kernel_rfl) (by kernel_rfl) (by kernel_rfl) (fun _ _ _ h => h) (Or.inl ⟨by rfl, ?hy1⟩) hS0 ?_
      case hy1 => (intro w' hw';  go_simp; try with_reducible rfl)
      simp only [List.getElem_toArray, List.getElem_cons_zero, List.getElem_cons_succ, Act.put, List.setIfInBounds_toArray, List.set_cons_zero, List.set_cons_succ]
      refine wpAnyH_take (i := 2) (v := ?v2) rfl (by kernel_rfl) (by kernel_rfl) (by kernel_rfl) (fun _ _ _ h => h) (Or.inl ⟨by rfl, ?hy2⟩) hS0 ?_
      case hy2 => (intro w' hw'; have c7 := (hw'.1.cell (p := ⟨w.heap.size, 7, none⟩) (show w.heap.size < w.heap.size + 1 + 1 + 1 + 1 by omega)).trans y7; have cn := (hw'.1.cell (p := ⟨p, off + q * 9, none⟩) (show p < w.heap.size + 1 + 1 + 1 + 1 by omega)).trans hn2; go_simp; try with_reducible rfl)
      simp only [List.getElem_toArray, List.getElem_cons_zero, List.getElem_cons_succ, Act.put, List.setIfInBounds_toArray, List.set_cons_zero, List.set_cons_succ]
      refine wpAnyH_take (i := 3) (v := ?v3) rfl (by kernel_rfl) (by kernel_rfl) (by kernel_rfl) (fun _ _ _ h => h) (Or.inl ⟨by rfl, ?hy3⟩) hS0 ?_
      case hy3 => (intro w' hw'; have c7 := (hw'.1.cell (p := ⟨w.heap.size, 7, none⟩) (show w.heap.size < w.heap.size + 1 + 1 + 1 + 1 by omega)).trans y7; have cn := (hw'.1.cell (p := ⟨p, off + q * 9, none⟩) (show p < w.heap.size + 1 + 1 + 1 + 1 by omega)).trans hn2; go_simp; try with_reducible rfl)
      simp only [List.getElem_toArray, List.getElem_cons_zero, List.getElem_cons_succ, Act.put, List.setIfInBounds_toArray, List.set_cons_zero, List.set_cons_succ]
      refine wpAnyH_take (i := 4) (v := ?v4) rfl (by kernel_rfl) (by kernel_rfl) (by kernel_rfl) (fun _ _ _ h => h) (Or.inl ⟨by rfl, ?hy4⟩) hS0 ?_
      case hy4 => (intro w' hw'; have c7 := (hw'.1.cell (p := ⟨w.heap.size, 7, none⟩) (show w.heap.size < w.heap.size + 1 + 1 + 1 + 1 by omega)).trans y7; have cn := (hw'.1.cell (p := ⟨p, off + q * 9, none⟩) (show p < w.heap.size + 1 + 1 + 1 + 1 by omega)).trans hn2; go_simp; try with_reducible rfl)
      simp only [List.getElem_toArray, List.getElem_cons_zero, List.getElem_cons_succ, Act.put, List.setIfInBounds_toArray, List.set_cons_zero, List.set_cons_succ]
      refine wpAnyH_take (i := 5) (v := ?v5) rfl (by kernel_rfl) (by kernel_rfl) (by kernel_rfl) (fun _ _ _ h => h) (Or.inl ⟨by rfl, ?hy5⟩) hS0 ?_
      case hy5 => (intro w' hw'; have c7 := (hw'.1.cell (p := ⟨w.heap.size, 7, none⟩) (show w.heap.size < w.heap.size + 1 + 1 + 1 + 1 by omega)).trans y7; have cn := (hw'.1.cell (p := ⟨p, off + q * 9, none⟩) (show p < w.heap.size + 1 + 1 + 1 + 1 by omega)).trans hn2; go_simp; try with_reducible rfl)
      simp only [List.getElem_toArray, List.getElem_cons_zero, List.getElem_cons_succ, Act.put, List.setIfInBounds_toArray, List.set_cons_zero, List.set_cons_succ]
      refine wpAnyH_take (i := 6) (v := ?v6) rfl (by kernel_rfl) (by kernel_rfl) (by kernel_rfl) (fun _ _ _ h => h) (Or.inl ⟨by rfl, ?hy6⟩) hS0 ?_
      case hy6 => (intro w' hw'; have c7 := (hw'.1.cell (p := ⟨w.heap.size, 7, none⟩) (show w.heap.size < w.heap.size + 1 + 1 + 1 + 1 by omega)).trans y7; have cn := (hw'.1.cell (p := ⟨p, off + q * 9, none⟩) (show p < w.heap.size + 1 + 1 + 1 + 1 by omega)).trans hn2; go_simp; try with_reducible rfl)
      simp only [List.getElem_toArray, List.getElem_cons_zero, List.getElem_cons_succ, Act.put, List.setIfInBounds_toArray, List.set_cons_zero, List.set_cons_succ]
      refine wpAnyH_take (i := 7) (v := ?v7) rfl (by kernel_rfl) (by kernel_rfl) (by kernel_rfl) (fun _ _ _ h => h) (Or.inl ⟨by rfl, ?hy7⟩) hS0 ?_
      case hy7 => (intro w' hw'; have c7 := (hw'.1.cell (p := ⟨w.heap.size, 7, none⟩) (show w.heap.size < w.heap.size + 1 + 1 + 1 + 1 by omega)).trans y7; have cn := (hw'.1.cell (p := ⟨p, off + q * 9, none⟩) (show p < w.heap.size + 1 + 1 + 1 + 1 by omega)).trans hn2; go_simp; try with_reducible rfl)
      simp only [List.getElem_toArray, List.getElem_cons_zero, List.getElem_cons_succ, Act.put, List.setIfInBounds_toArray, List.set_cons_zero, List.set_cons_succ]
      refine wpAnyH_take (i := 8) rfl (by kernel_rfl) (by kernel_rfl) (by kernel_rfl) (fun _ _ _ h => h) (yieldsIf_load_mid (by rfl) 29 _ (by rfl) w1.heap.size 0 (by rfl) ds _ (fun w' hw' => hw'.2) Tryz.underlying29 (by rfl) i8') hS0 ?_
      simp only [List.getElem_toArray, List.getElem_cons_zero, List.getElem_cons_succ, Act.put, List.setIfInBounds_toArray, List.set_cons_zero, List.set_cons_succ]
      refine rgn.take (i := 9) _ (.agg (Value.string nm :: ds).toArray) rfl (by kernel_rfl) (by kernel_rfl) (by kernel_rfl) (fun _ _ _ h => h) (by rfl) hS0 (fun w' hw' => by
        have hO4 := hO1
        clear hO1 d8 d1 A O2 H2 hr2 hS0 i8' hw' EV sV1
        obtain ⟨kd, bb, ni, f, tx, ty, its, fls⟩ := v2
        unfold OwC at hO4
        obtain ⟨ai, nI, ci, af, nf, cf, Fi, Ff, rfl, -⟩ := hO4
        go_simp) ?_
      simp only [List.getElem_toArray, List.getElem_cons_zero, List.getElem_cons_succ, Act.put, List.setIfInBounds_toArray, List.set_cons_zero, List.set_cons_succ]
      have hone : ∀ u ∈ (Value.string nm :: ds), u.oneCell' = true := fun u hu => (Array.all_eq_true_iff_forall_mem.1 (one9 nm (OwC.read v2 ds F hO1))) u (by simpa using hu)
      have hby : (((litF N fls).list.take q).length + 1) * 128 ≤ 140737488355328 := by rw [hlen]; omega
      have hml : ((litF N fls).list.take q).length + 1 ≤ maxLen := by rw [hlen]; unfold maxLen; omega
      have hbd := buildM nm (OwC.read v2 ds F hO1) ({ V with drawn := V.drawn + 1 } : World)
      have hOM : OwM ({ V with drawn := V.drawn + 1 } : World) (nm, v2) (Value.string nm :: ds) F := ⟨ds, rfl, hnz, OwC.agree v2 ds F (show Agree F V ({ V with drawn := V.drawn + 1 } : World) from fun b _ j => rfl) O2⟩
      have hH3 : Grow OwM 45 9 ({ V with drawn := V.drawn + 1 } : World) (w.heap.size + 5) ((litF N fls).list.take q) sm H := H2.keep agM (Nat.le_refl _) (fun b _ _ _ => rfl)
      have hMV : w.heap.size + 5 ≤ V.heap.size := by omega
      have c7m : V.cell? ⟨w.heap.size + 1 + 1 + 1 + 1, 7, none⟩ = some sm := (unhide HV2).cel 7 _ rfl
      have hl9 : (Value.string nm :: ds).length = 9 := by simp [d8]
      obtain ⟨X, eX⟩ : ∃ X, X = ({ V with drawn := V.drawn + 1 } : World).alloc (.cells (Value.string nm :: ds).toArray 45) := ⟨_, rfl⟩
      have hSX : Below (w.heap.size + 1 + 1 + 1 + 1) V X ∧ X.rangeAt w1.heap.size 0 ds := by
        rw [eX]
        refine ⟨hS0.1.alloc (show w.heap.size + 1 + 1 + 1 + 1 ≤ V.heap.size by omega) _, World.rangeAt_alloc hS0.2 _⟩
      have bX : Below V.heap.size V X := by rw [eX]; exact (Below.refl V.heap.size V).drew.alloc (Nat.le_refl _) _
      have c7x := keepC bX (show w.heap.size + 1 + 1 + 1 + 1 < V.heap.size by omega) c7m
      refine rgn.two (i := 1) (j := 10) _ _ rfl rfl (by kernel_rfl) (by rfl) (by rfl) ?_ ?_
      · simp only [List.getElem_toArray, List.getElem_cons_zero, List.getElem_cons_succ, Act.put, List.setIfInBounds_toArray, List.set_cons_zero, List.set_cons_succ]
        clear c7x
        go_wp2_with fail
        refine ⟨hS0, ?_⟩
        refine rgn.one (i := 10) _ rfl (by kernel_rfl) (by rfl) ?_
        simp only [List.getElem_toArray, List.getElem_cons_zero, List.getElem_cons_succ, Act.put, List.setIfInBounds_toArray, List.set_cons_zero, List.set_cons_succ]
        refine wpO_buildOne 27 _ (by rfl) (.agg (Value.string nm :: ds).toArray) _ (by rfl) hbd ?_
        rw [← eX]
        refine ⟨hSX, ?_⟩
        simp only [List.getElem_toArray, List.getElem_cons_zero, List.getElem_cons_succ, Act.put, List.setIfInBounds_toArray, List.set_cons_zero, List.set_cons_succ]
        refine rgn.one (i := 11) _ rfl (by kernel_rfl) (by rfl) ?_
        simp only [List.getElem_toArray, List.getElem_cons_zero, List.getElem_cons_succ, Act.put, List.setIfInBounds_toArray, List.set_cons_zero, List.set_cons_succ]
        rw [eX]
        refine wpO_grow agM _ _ (by rfl) Tryz.underlying27 hi0 hz0 hs0 hb0 hc0 (by omega) (w.heap.size + 5) ((litF N fls).list.take q) sm H (by rfl) hH3 (nm, v2) (Value.string nm :: ds) F hOM hl9 hone hnd1 hr2 (fun b hb j => z2 b hb j) V.heap.size rfl (by rfl) hby hml hMV ?_
        intro sl' w4 g4 b4 far
        obtain ⟨aj, nj, cj, rfl⟩ := g4.form
        have b4' : Below (w.heap.size + 5) V w4 := (Below.refl _ _).drew.trans b4
        have hS4 : Below (w.heap.size + 1 + 1 + 1 + 1) V w4 ∧ w4.rangeAt w1.heap.size 0 ds := ⟨b4'.mono (by omega), fun j u hu => by
          rw [cell_blk (far w1.heap.size (show w1.heap.size < V.heap.size by omega) (fun h => by have := hown _ h; omega)) (0 + j)]
          exact (unhide A).2.1 j u hu⟩
        have V4 := (unhide HV2).below b4'
        have e7 : w4.cell? ⟨w.heap.size + 1 + 1 + 1 + 1, 7, none⟩ = some sm := V4.cel 7 _ rfl
        have f7 : w4.frozen? ⟨w.heap.size + 1 + 1 + 1 + 1, 7, none⟩ = false := (V4.may 7 (by omega)).2
        refine ⟨hS4, ?_⟩
        have hS0 := hS4
        simp only [List.getElem_toArray, List.getElem_cons_zero, List.getElem_cons_succ, Act.put, List.setIfInBounds_toArray, List.set_cons_zero, List.set_cons_succ]
        refine rgn.take (i := 12) _ (.pointer (some ⟨w.heap.size + 1 + 1 + 1 + 1, 7, none⟩)) rfl (by kernel_rfl) (by kernel_rfl) (by kernel_rfl) (fun _ _ _ h => h) (by rfl) hS0 (fun w' hw' => by go_simp) ?_
        simp only [List.getElem_toArray, List.getElem_cons_zero, List.getElem_cons_succ, Act.put, List.setIfInBounds_toArray, List.set_cons_zero, List.set_cons_succ]
        refine rgn.one (i := 13) _ rfl (by kernel_rfl) (by rfl) ?_
        simp only [List.getElem_toArray, List.getElem_cons_zero, List.getElem_cons_succ, Act.put, List.setIfInBounds_toArray, List.set_cons_zero, List.set_cons_succ]
        have V5 := V4.put 7 (by omega) (.slice aj nj cj)
        have H5 : Grow OwM 45 9 (w4.setCells (w.heap.size + 1 + 1 + 1 + 1) 7 [.slice aj nj cj]) (w.heap.size + 5) ((litF N fls).list.take q ++ [(nm, v2)]) (.slice aj nj cj) (H ++ F) := Grow.setCells agM g4 _ _ _ (by omega)
        have hS5 : Below (w.heap.size + 1 + 1 + 1 + 1) V (w4.setCells (w.heap.size + 1 + 1 + 1 + 1) 7 [.slice aj nj cj]) ∧ (w4.setCells (w.heap.size + 1 + 1 + 1 + 1) 7 [.slice aj nj cj]).rangeAt w1.heap.size 0 ds := ⟨below_setCells _ _ _ _ hS4.1 (Nat.le_refl _), fun j u hu => by
          rw [World.cell?_setCells_out _ _ _ _ _ (fun e _ => by have e : w1.heap.size = w.heap.size + 1 + 1 + 1 + 1 := e; omega)]
          exact hS4.2 j u hu⟩
        have HX := hide (And.intro V5 (And.intro H5 hS5))
        clear V5 H5 hS5 V4 hS4 hS0 g4 b4 b4' far hSX eX
        go_wp2_with fail
        refine ⟨(unhide HX).2.2, ?_⟩
        refine wpAnyH_done (by kernel_rfl) ?_ _
        refine NoPanic.normal ?_
        go_wp2
        exact ⟨⟨q + 1, .slice aj nj cj, H ++ F, by omega, by go_num, hide (unhide HX).1, hide (by rw [List.take_add_one, unhide Hg]; exact (unhide HX).2.1)⟩, by simp only [intOf]; omega⟩
      · simp only [List.getElem_toArray, List.getElem_cons_zero, List.getElem_cons_succ, Act.put, List.setIfInBounds_toArray, List.set_cons_zero, List.set_cons_succ]
        refine wpO_buildOne 27 _ (by rfl) (.agg (Value.string nm :: ds).toArray) _ (by rfl) hbd ?_
        rw [← eX]
        refine ⟨hSX, ?_⟩
        simp only [List.getElem_toArray, List.getElem_cons_zero, List.getElem_cons_succ, Act.put, List.setIfInBounds_toArray, List.set_cons_zero, List.set_cons_succ]
        refine rgn.one (i := 1) _ rfl (by kernel_rfl) (by rfl) ?_
        simp only [List.getElem_toArray, List.getElem_cons_zero, List.getElem_cons_succ, Act.put, List.setIfInBounds_toArray, List.set_cons_zero, List.set_cons_succ]
        refine wpO_load1 27 _ (by rfl) _ sm (by rfl) (loadSM X (w.heap.size + 1 + 1 + 1 + 1) 7 sm c7x) ?_
        refine ⟨hSX, ?_⟩
        simp only [List.getElem_toArray, List.getElem_cons_zero, List.getElem_cons_succ, Act.put, List.setIfInBounds_toArray, List.set_cons_zero, List.set_cons_succ]
        refine rgn.one (i := 11) _ rfl (by kernel_rfl) (by rfl) ?_
        simp only [List.getElem_toArray, List.getElem_cons_zero, List.getElem_cons_succ, Act.put, List.setIfInBounds_toArray, List.set_cons_zero, List.set_cons_succ]
        rw [eX]
        refine wpO_grow agM _ _ (by rfl) Tryz.underlying27 hi0 hz0 hs0 hb0 hc0 (by omega) (w.heap.size + 5) ((litF N fls).list.take q) sm H (by rfl) hH3 (nm, v2) (Value.string nm :: ds) F hOM hl9 hone hnd1 hr2 (fun b hb j => z2 b hb j) V.heap.size rfl (by rfl) hby hml hMV ?_
        intro sl' w4 g4 b4 far
        obtain ⟨aj, nj, cj, rfl⟩ := g4.form
        have b4' : Below (w.heap.size + 5) V w4 := (Below.refl _ _).drew.trans b4
        have hS4 : Below (w.heap.size + 1 + 1 + 1 + 1) V w4 ∧ w4.rangeAt w1.heap.size 0 ds := ⟨b4'.mono (by omega), fun j u hu => by
          rw [cell_blk (far w1.heap.size (show w1.heap.size < V.heap.size by omega) (fun h => by have := hown _ h; omega)) (0 + j)]
          exact (unhide A).2.1 j u hu⟩
        have V4 := (unhide HV2).below b4'
        have e7 : w4.cell? ⟨w.heap.size + 1 + 1 + 1 + 1, 7, none⟩ = some sm := V4.cel 7 _ rfl
        have f7 : w4.frozen? ⟨w.heap.size + 1 + 1 + 1 + 1, 7, none⟩ = false := (V4.may 7 (by omega)).2
        refine ⟨hS4, ?_⟩
        have hS0 := hS4
        simp only [List.getElem_toArray, List.getElem_cons_zero, List.getElem_cons_succ, Act.put, List.setIfInBounds_toArray, List.set_cons_zero, List.set_cons_succ]
        refine rgn.take (i := 12) _ (.pointer (some ⟨w.heap.size + 1 + 1 + 1 + 1, 7, none⟩)) rfl (by kernel_rfl) (by kernel_rfl) (by kernel_rfl) (fun _ _ _ h => h) (by rfl) hS0 (fun w' hw' => by go_simp) ?_
        simp only [List.getElem_toArray, List.getElem_cons_zero, List.getElem_cons_succ, Act.put, List.setIfInBounds_toArray, List.set_cons_zero, List.set_cons_succ]
        refine rgn.one (i := 13) _ rfl (by kernel_rfl) (by rfl) ?_
        simp only [List.getElem_toArray, List.getElem_cons_zero, List.getElem_cons_succ, Act.put, List.setIfInBounds_toArray, List.set_cons_zero, List.set_cons_succ]
        have V5 := V4.put 7 (by omega) (.slice aj nj cj)
        have H5 : Grow OwM 45 9 (w4.setCells (w.heap.size + 1 + 1 + 1 + 1) 7 [.slice aj nj cj]) (w.heap.size + 5) ((litF N fls).list.take q ++ [(nm, v2)]) (.slice aj nj cj) (H ++ F) := Grow.setCells agM g4 _ _ _ (by omega)
        have hS5 : Below (w.heap.size + 1 + 1 + 1 + 1) V (w4.setCells (w.heap.size + 1 + 1 + 1 + 1) 7 [.slice aj nj cj]) ∧ (w4.setCells (w.heap.size + 1 + 1 + 1 + 1) 7 [.slice aj nj cj]).rangeAt w1.heap.size 0 ds := ⟨below_setCells _ _ _ _ hS4.1 (Nat.le_refl _), fun j u hu => by
          rw [World.cell?_setCells_out _ _ _ _ _ (fun e _ => by have e : w1.heap.size = w.heap.size + 1 + 1 + 1 + 1 := e; omega)]
          exact hS4.2 j u hu⟩
        have HX := hide (And.intro V5 (And.intro H5 hS5))
        clear V5 H5 hS5 V4 hS4 hS0 g4 b4 b4' far hSX eX
        go_wp2_with fail
        refine ⟨(unhide HX).2.2, ?_⟩
        refine wpAnyH_done (by kernel_rfl) ?_ _
        refine NoPanic.normal ?_
        go_wp2
        exact ⟨⟨q + 1, .slice aj nj cj, H ++ F, by omega, by go_num, hide (unhide HX).1, hide (by rw [List.take_add_one, unhide Hg]; exact (unhide HX).2.1)⟩, by simp only [intOf]; omega⟩
    · obtain rfl : q = nf := by omega
      have hG' := hide (show Grow OwM 45 9 wr (w.heap.size + 5) (litF N fls).list sm H by have := unhide hH; rwa [List.take_of_length_le (by rw [(unhide HF).2.2, (unhide HF).2.1]; exact Nat.le_refl _)] at this)
      clear hH
      obtain ⟨L, eL⟩ : ∃ L : List Value, L = [.int .i64 6, .bool B, .int .i64 N, .float .f64 4602678819172646912, .string ⟨#[255]⟩, .string ⟨#[254]⟩, .slice (some ⟨w.heap.size + 1 + 1, 0, none⟩) 1 1, sm] := ⟨_, rfl⟩
      have hrL : wr.rangeAt (w.heap.size + 1 + 1 + 1 + 1) 0 L := by rw [eL]; exact (unhide hV).cel
      have hL8 : L.length = 8 := by rw [eL]; rfl
      obtain ⟨aj, nj, cj, rfl⟩ := (unhide hG').form
      have ho8 : L.toArray.all (·.oneCell') = true := by rw [eL]; simp [Value.oneCell']
      have iL : (Tryz.prog.info? 29).map (·.size) = some L.length := by rw [hL8]; exact infoV
      have iL' : (Tryz.prog.info? 29).map (·.size) = some L.toArray.size := by simp [hL8, infoV]
      have hT : wr.there (w.heap.size + 1) 0 L.toArray.size := by rw [show L.toArray.size = 8 by simp [hL8]]; exact (unhide hV).res
      have A := hide (And.intro hrL (And.intro iL (And.intro iL' (And.intro hT (And.intro hL8 eL)))))
      clear hrL iL iL' hT hL8 eL
      go_wp2_with (first
        | refine wpList_load_mid (by rfl) 29 _ (by rfl) (w.heap.size + 1 + 1 + 1 + 1) 0 (by rfl) L _ (unhide A).1 Tryz.underlying29 (by rfl) (unhide A).2.1 ?_
        | refine wpList_store_mid (by rfl) 29 _ _ (by rfl) (w.heap.size + 1) 0 L.toArray (by rfl) (by rfl) (unhide A).2.2.2.1 (unhide A).2.2.1 ho8 ?_)
      obtain ⟨hrL, iL, iL', hT, hL8, eL⟩ := unhide A
      have V9 := unhide hV
      have hs9 := V9.siz
      have hr9 : (wr.setCells (w.heap.size + 1) 0 L).rangeAt (w.heap.size + 1) 0 L := World.rangeAt_setCells_same _ _ _ _ hT
      refine bodyPost_ret (rgn.result_row rfl _ _ (w.heap.size + 1) 0 L _ rfl hr9 Tryz.underlying29 rfl iL) rfl ?_
      have G9 := Grow.setCells agM (unhide hG') (w.heap.size + 1) 0 L (by omega)
      obtain ⟨aj', cj', Fi, e6, hOI, ndI, rnI, fzI, q1, q2, q3⟩ := G9.parts
      simp only [Value.slice.injEq] at e6
      obtain ⟨rfl, rfl, rfl⟩ := e6
      have hsz9 := size_setCells (w.heap.size + 1) L 0 wr
      have hlF := (unhide HF).2.1
      have hlM := (unhide HF).2.2
      have hM9 : OwsIn (wr.setCells (w.heap.size + 1) 0 L) jkI (w.heap.size + 1 + 1) 0 1 [] := OwsIn.agree jkI _ _ _ _ (agree_setCells wr (by simp)) V9.ownI
      have fz9 : Fz (wr.setCells (w.heap.size + 1) 0 L) [w.heap.size + 1 + 1] := Fz.setCells V9.fI _ _ _
      rw [hlM] at eL q1 hOI
      refine ⟨L, rfl, [w.heap.size + 1 + 1] ++ Fi, ?_, ?_, ?_, below_setCells _ _ _ _ V9.bel (by omega), fz9.app fzI⟩
      · rw [litV, tmod_wrap, ← unhide HB]
        simp only [show ¬ ((6 : Int) = 1) by decide, show ¬ ((6 : Int) = 2) by decide, show ¬ ((6 : Int) = 3) by decide, show ¬ ((6 : Int) = 4) by decide, show ¬ ((6 : Int) = 5) by decide, if_true, if_false]
        unfold OwC
        refine ⟨_, 1, 1, _, _, _, [w.heap.size + 1 + 1], Fi, eL, .inr ⟨_, [], rfl, rfl, hM9⟩, ?_, Nat.le_refl _, q1, fun e => (by cases e), q2, hk1, hN, by unfold maxLen; decide, by unfold maxLen; decide, by unfold maxLen; decide, q3, rfl⟩
        rcases hOI with ⟨h1, h2, h3, h4⟩ | ⟨p, xss, hp, rfl, hl, hc⟩
        · exact .inl ⟨h1, by rw [← Fls.of_list (litF N fls), h2]; rfl, h3, h4⟩
        · refine .inr ⟨p, H, hp, rfl, ?_⟩
          have := OwL.insM p 0 hl hc
          rwa [Fls.of_list, hlM] at this
      · rw [List.nodup_append]
        refine ⟨by simp, ndI, fun x hx y hy e => ?_⟩
        have h1 := (rnI y hy).1
        simp at hx
        omega
      · intro b hb
        rcases List.mem_append.1 hb with h | h
        · simp at h; omega
        · have := rnI b h; omega
theorem littered_ok : ∀ v : Vl, LitAt v := by
  refine Vl.all ?_
  intro kd bb ni f tx ty its fls ihI ihF
  by_cases h5 : kd = 5
  · subst h5
    exact lit_list bb ni f tx ty its fls ihI
  by_cases h6 : kd = 6
  · subst h6
    exact lit_obj bb ni f tx ty its fls ihF
  exact lit_flat kd bb ni f tx ty its fls h5 h6
end Go.Proofs.YtechaplindbfoaaGreatDoor.vl
namespace Go.Proofs.YtechaplindbfoaaGreatDoor.jsn
open Go.ChangeShapes Go.WideShapes Go.ChangeAt Go.RowKit
open mem Go.Maps
open vl hiding hide unhide Hid
open ints (hide unhide)
set_option linter.unusedVariables false
theorem catch_w (p q : Option Addr) (w : World) :
    CallsD Tryz.prog 26 #[.pointer p, .pointer q] .returning w fun e u' w' => e = .returned (.tuple #[]) ∧ u' = .returning ∧ w' = w := by
  refine callsD_of_wpS Tryz.func26 rfl fun c₀ cs hu => ?_
  apply wpS_seq
  apply wpS_region
  simp [wpOpsS, go_sem, recoverD, hu, Tryz.ntmps26, Exit.thenS]
  refine wpS_of_wp ?_
  go_wp2
  cases c₀
  simp_all [bodyPostS, results, Tryz.results26]
set_option maxHeartbeats 4000000 in
set_option maxRecDepth 100000 in
theorem write_ok (N : Nums) (v : Vl) (cs : List Value) (w : World) (hN : N.Ok w) (hv : VlC w v cs) (hok : okV N v) (hl : (js N v).length ≤ 70368744177664) :
    Calls Tryz.prog 13 #[.agg cs.toArray] w fun e w' => ∃ r, e = .returned (.tuple #[r, .int .i64 0]) ∧ w'.ownsRow w.heap.size 5 1 r (js N v).length (Lib.byteCells (js N v)) ∧ Below w.heap.size w w' := by
  have hmf : ∀ (fn : Fn) (first cap : Array Value) (w : World), (Instr.makeFunc fn first cap).run Tryz.prog w = .ok (.func fn first cap) w := fun _ _ _ _ => rfl
  have hsf := storeF
  have HV := hide hv
  cases v with
  | mk kd bb ni f tx ty its fl =>
  unfold VlC at hv
  obtain ⟨ai, nI, ci, af, nf, cf, rfl, -⟩ := hv
  go_enter_defers Tryz.func13, Tryz.ntmps13
  go_wp2_with fail
  have hb : Below w.heap.size w (((w.alloc (.cells #[.int .i64 kd, .bool bb, .int .i64 ni, .float .f64 f, .string tx, .string ty, .slice ai nI ci, .slice af nf cf] 29)).alloc (.cells #[.slice none 0 0] 34)).alloc (.cells #[.int .i64 0] 31)) := (((Below.refl _ _).alloc (Nat.le_refl _) _).alloc (by simp) _).alloc (by simp; omega) _
  have hI : wI w.heap.size (w.heap.size + 1) (w.heap.size + 1 + 1) [] (((w.alloc (.cells #[.int .i64 kd, .bool bb, .int .i64 ni, .float .f64 f, .string tx, .string ty, .slice ai nI ci, .slice af nf cf] 29)).alloc (.cells #[.slice none 0 0] 34)).alloc (.cells #[.int .i64 0] 31)) := by
    refine ⟨⟨by omega, by omega, by simp⟩, ?_, .slice none 0 0, ?_, World.ownsRow_nil _ _ _ _⟩
    · have := heap_alloc_new ((w.alloc (.cells #[.int .i64 kd, .bool bb, .int .i64 ni, .float .f64 f, .string tx, .string ty, .slice ai nI ci, .slice af nf cf] 29)).alloc (.cells #[.slice none 0 0] 34)) (.cells #[.int .i64 0] 31)
      simpa using this
    · have := heap_alloc_new (w.alloc (.cells #[.int .i64 kd, .bool bb, .int .i64 ni, .float .f64 f, .string tx, .string ty, .slice ai nI ci, .slice af nf cf] 29)) (.cells #[.slice none 0 0] 34)
      exact (Below.heap_alloc _ _ _ (by simp)).trans (by simpa using this)
  refine (value_ok N _ _ (wI w.heap.size (w.heap.size + 1) (w.heap.size + 1 + 1)) w hN (pen_w _ _ _) _ hok _ _ [] (unhide HV) hb hI (by simpa using hl)).mono ?_
  rintro e w1 ⟨rfl, i1, f1⟩
  obtain ⟨⟨-, -, h3⟩, h4, r, h5, h6⟩ := i1
  have c4 : w1.cell? ⟨w.heap.size + 1 + 1, 0, none⟩ = some (.int .i64 0) := by rw [Lib.cell_of_heap h4]; rfl
  have c5 : w1.cell? ⟨w.heap.size + 1, 0, none⟩ = some r := by rw [Lib.cell_of_heap h5]; rfl
  have z4 : w1.frozen? ⟨w.heap.size + 1 + 1, 0, none⟩ = false := Lib.frozen_of_heap h4 0
  have z5 : w1.frozen? ⟨w.heap.size + 1, 0, none⟩ = false := Lib.frozen_of_heap h5 0
  rw [List.nil_append] at h6
  obtain ⟨ao, n', cap', rfl⟩ : ∃ ao n' cap, r = .slice ao n' cap := by
    rcases h6.2 with ⟨hv, _⟩ | ⟨g, cap, cur, hv, _⟩
    · exact ⟨_, _, _, hv⟩
    · exact ⟨_, _, _, hv⟩
  have H4 := hide h4
  have H5 := hide h5
  have H6 := hide h6
  have HB := hide (hb.trans f1.bel)
  clear h4 h5 h6 hb hI f1 hN hok HV hsf
  go_wp2
  have h4 := unhide H4
  have h5 := unhide H5
  have h6 := unhide H6
  have n1 : (Value.slice ao n' cap').ownBlock ≠ some (w.heap.size + 1) := Lib.ownBlock_ne h6 h5 (by decide)
  have n2 : (Value.slice ao n' cap').ownBlock ≠ some (w.heap.size + 1 + 1) := Lib.ownBlock_ne h6 h4 (by decide)
  have o1 : (w1.setCell ⟨w.heap.size + 1, 0, none⟩ (.slice ao n' cap')).ownsRow w.heap.size 5 1 (.slice ao n' cap') (js N (.mk kd bb ni f tx ty its fl)).length (Lib.byteCells (js N (.mk kd bb ni f tx ty its fl))) :=
    h6.kept (row := some (w.heap.size + 1)) ⟨rfl, rfl, rfl, by simp [World.setCell], fun k _ hk => Below.heap_setCell _ _ _ _ (fun e => hk (by simp [e]))⟩ (Or.inr n1)
  have o2 : ((w1.setCell ⟨w.heap.size + 1, 0, none⟩ (.slice ao n' cap')).setCell ⟨w.heap.size + 1 + 1, 0, none⟩ (.int .i64 0)).ownsRow w.heap.size 5 1 (.slice ao n' cap') (js N (.mk kd bb ni f tx ty its fl)).length (Lib.byteCells (js N (.mk kd bb ni f tx ty its fl))) :=
    o1.kept (row := some (w.heap.size + 1 + 1)) ⟨rfl, rfl, rfl, by simp [World.setCell], fun k _ hk => Below.heap_setCell _ _ _ _ (fun e => hk (by simp [e]))⟩ (Or.inr n2)
  have b2 : Below w.heap.size w ((w1.setCell ⟨w.heap.size + 1, 0, none⟩ (.slice ao n' cap')).setCell ⟨w.heap.size + 1 + 1, 0, none⟩ (.int .i64 0)) := ((unhide HB).setCell (p := ⟨w.heap.size + 1, 0, none⟩) (by simp) _).setCell (p := ⟨w.heap.size + 1 + 1, 0, none⟩) (by simp; omega) _
  have x5 : ((w1.setCell ⟨w.heap.size + 1, 0, none⟩ (.slice ao n' cap')).setCell ⟨w.heap.size + 1 + 1, 0, none⟩ (.int .i64 0)).cell? ⟨w.heap.size + 1, 0, none⟩ = some (.slice ao n' cap') := by
    rw [World.cell?_setCell_other _ _ _ _ (by simp), World.cell?_setCell_same (h := c5)]
  have x4 : ((w1.setCell ⟨w.heap.size + 1, 0, none⟩ (.slice ao n' cap')).setCell ⟨w.heap.size + 1 + 1, 0, none⟩ (.int .i64 0)).cell? ⟨w.heap.size + 1 + 1, 0, none⟩ = some (.int .i64 0) := by
    have q : (w1.setCell ⟨w.heap.size + 1, 0, none⟩ (.slice ao n' cap')).cell? ⟨w.heap.size + 1 + 1, 0, none⟩ = some (.int .i64 0) := by
      rw [World.cell?_setCell_other _ _ _ _ (by simp)]
      exact c4
    rw [World.cell?_setCell_same (h := q)]
  obtain ⟨W2, hW2⟩ : ∃ W2, W2 = ((w1.setCell ⟨w.heap.size + 1, 0, none⟩ (.slice ao n' cap')).setCell ⟨w.heap.size + 1 + 1, 0, none⟩ (.int .i64 0)) := ⟨_, rfl⟩
  rw [← hW2] at o2 b2 x5 x4 ⊢
  refine leaves_cons (f := 26) (args := #[.pointer (some ⟨w.heap.size + 1, 0, none⟩), .pointer (some ⟨w.heap.size + 1 + 1, 0, none⟩)]) (by simp) (by simp [go_sem]) ?_
  refine (catch_w _ _ _).mono ?_
  rintro e u' w'' ⟨rfl, rfl, rfl⟩
  simp [Leaves, settle, results, Tryz.results13, go_sem, x4, x5]
  exact ⟨o2, b2⟩
theorem catch_s (p q : Option Addr) (w : World) :
    CallsD Tryz.prog 22 #[.pointer p, .pointer q] .returning w fun e u' w' => e = .returned (.tuple #[]) ∧ u' = .returning ∧ w' = w := by
  refine callsD_of_wpS Tryz.func22 rfl fun c₀ cs hu => ?_
  apply wpS_seq
  apply wpS_region
  simp [wpOpsS, go_sem, recoverD, hu, Tryz.ntmps22, Exit.thenS]
  refine wpS_of_wp ?_
  go_wp2
  cases c₀
  simp_all [bodyPostS, results, Tryz.results22]
set_option maxHeartbeats 4000000 in
set_option maxRecDepth 100000 in
theorem size_ok (N : Nums) (v : Vl) (cs : List Value) (w : World) (hN : N.Ok w) (hv : VlC w v cs) (hok : okV N v) (hl : (js N v).length ≤ 70368744177664) :
    Calls Tryz.prog 12 #[.agg cs.toArray] w fun e w' => e = .returned (.tuple #[.int .i64 (js N v).length, .int .i64 0]) ∧ Below w.heap.size w w' := by
  have hmf : ∀ (fn : Fn) (first cap : Array Value) (w : World), (Instr.makeFunc fn first cap).run Tryz.prog w = .ok (.func fn first cap) w := fun _ _ _ _ => rfl
  have hsf := storeF
  have HV := hide hv
  obtain ⟨L, hL⟩ : ∃ L, L = (js N v).length := ⟨_, rfl⟩
  rw [← hL]
  have HL := hide hL
  clear hL
  cases v with
  | mk kd bb ni f tx ty its fl =>
  unfold VlC at hv
  obtain ⟨ai, nI, ci, af, nf, cf, rfl, -⟩ := hv
  go_enter_defers Tryz.func12, Tryz.ntmps12
  go_wp2_with fail
  have hb : Below w.heap.size w (((w.alloc (.cells #[.int .i64 kd, .bool bb, .int .i64 ni, .float .f64 f, .string tx, .string ty, .slice ai nI ci, .slice af nf cf] 29)).alloc (.cells #[.int .i64 0] 3)).alloc (.cells #[.int .i64 0] 31)) := (((Below.refl _ _).alloc (Nat.le_refl _) _).alloc (by simp) _).alloc (by simp; omega) _
  have hI : sI w.heap.size (w.heap.size + 1) (w.heap.size + 1 + 1) [] (((w.alloc (.cells #[.int .i64 kd, .bool bb, .int .i64 ni, .float .f64 f, .string tx, .string ty, .slice ai nI ci, .slice af nf cf] 29)).alloc (.cells #[.int .i64 0] 3)).alloc (.cells #[.int .i64 0] 31)) := by
    refine ⟨⟨by omega, by omega⟩, ?_, ?_, by simp⟩
    · have := heap_alloc_new ((w.alloc (.cells #[.int .i64 kd, .bool bb, .int .i64 ni, .float .f64 f, .string tx, .string ty, .slice ai nI ci, .slice af nf cf] 29)).alloc (.cells #[.int .i64 0] 3)) (.cells #[.int .i64 0] 31)
      simpa using this
    · have := heap_alloc_new (w.alloc (.cells #[.int .i64 kd, .bool bb, .int .i64 ni, .float .f64 f, .string tx, .string ty, .slice ai nI ci, .slice af nf cf] 29)) (.cells #[.int .i64 0] 3)
      exact (Below.heap_alloc _ _ _ (by simp)).trans (by simpa using this)
  refine (value_ok N _ _ (sI w.heap.size (w.heap.size + 1) (w.heap.size + 1 + 1)) w hN (pen_s _ _ _) _ hok _ _ [] (unhide HV) hb hI (by simpa using hl)).mono ?_
  rintro e w1 ⟨rfl, i1, f1⟩
  rw [List.nil_append] at i1
  obtain ⟨-, h4, h5, -⟩ := i1
  rw [← unhide HL] at h5
  clear HL hl
  have c4 : w1.cell? ⟨w.heap.size + 1 + 1, 0, none⟩ = some (.int .i64 0) := by rw [Lib.cell_of_heap h4]; rfl
  have c5 : w1.cell? ⟨w.heap.size + 1, 0, none⟩ = some (.int .i64 L) := by rw [Lib.cell_of_heap h5]; rfl
  have z4 : w1.frozen? ⟨w.heap.size + 1 + 1, 0, none⟩ = false := Lib.frozen_of_heap h4 0
  have z5 : w1.frozen? ⟨w.heap.size + 1, 0, none⟩ = false := Lib.frozen_of_heap h5 0
  have HB := hide (hb.trans f1.bel)
  clear h4 h5 hb hI f1 hN hok HV hsf
  go_wp2
  have b2 : Below w.heap.size w ((w1.setCell ⟨w.heap.size + 1, 0, none⟩ (.int .i64 L)).setCell ⟨w.heap.size + 1 + 1, 0, none⟩ (.int .i64 0)) := ((unhide HB).setCell (p := ⟨w.heap.size + 1, 0, none⟩) (by simp) _).setCell (p := ⟨w.heap.size + 1 + 1, 0, none⟩) (by simp; omega) _
  have x5 : ((w1.setCell ⟨w.heap.size + 1, 0, none⟩ (.int .i64 L)).setCell ⟨w.heap.size + 1 + 1, 0, none⟩ (.int .i64 0)).cell? ⟨w.heap.size + 1, 0, none⟩ = some (.int .i64 L) := by
    rw [World.cell?_setCell_other _ _ _ _ (by simp), World.cell?_setCell_same (h := c5)]
  have x4 : ((w1.setCell ⟨w.heap.size + 1, 0, none⟩ (.int .i64 L)).setCell ⟨w.heap.size + 1 + 1, 0, none⟩ (.int .i64 0)).cell? ⟨w.heap.size + 1 + 1, 0, none⟩ = some (.int .i64 0) := by
    have q : (w1.setCell ⟨w.heap.size + 1, 0, none⟩ (.int .i64 L)).cell? ⟨w.heap.size + 1 + 1, 0, none⟩ = some (.int .i64 0) := by
      rw [World.cell?_setCell_other _ _ _ _ (by simp)]
      exact c4
    rw [World.cell?_setCell_same (h := q)]
  obtain ⟨W2, hW2⟩ : ∃ W2, W2 = ((w1.setCell ⟨w.heap.size + 1, 0, none⟩ (.int .i64 L)).setCell ⟨w.heap.size + 1 + 1, 0, none⟩ (.int .i64 0)) := ⟨_, rfl⟩
  rw [← hW2] at b2 x5 x4 ⊢
  refine leaves_cons (f := 22) (args := #[.pointer (some ⟨w.heap.size + 1, 0, none⟩), .pointer (some ⟨w.heap.size + 1 + 1, 0, none⟩)]) (by simp) (by simp [go_sem]) ?_
  refine (catch_s _ _ _).mono ?_
  rintro e u' w'' ⟨rfl, rfl, rfl⟩
  simp [Leaves, settle, results, Tryz.results12, go_sem, x4, x5]
  exact b2
end Go.Proofs.YtechaplindbfoaaGreatDoor.jsn
namespace Go.Proofs.YtechaplindbfoaaGreatDoor.jsn
open Go.ChangeShapes Go.WideShapes Go.ChangeAt Go.RowKit
open mem Go.Maps
open vl hiding hide unhide Hid
open ints (hide unhide)
set_option linter.unusedVariables false
/-- what a refusal panics with -/
def rfV (k : Int) : Value := .iface 71 (.agg #[.int .i64 k])
def rfP (k : Int) : List PanicEntry := [{ v := rfV k, recovered := false }]
theorem refuse_ok (k : Int) (w : World) : Calls Tryz.prog 45 #[.int .i64 k] w fun e w' => e = .panicked (rfP k) ∧ w' = w := by
  go_enter Tryz.func45, Tryz.ntmps45
  go_wp2
  exact ⟨rfl, rfl, rfl⟩
theorem reason_ok (k : Int) (w : World) : Calls Tryz.prog 23 #[rfV k] w fun e w' => e = .returned (.int .i64 k) ∧ w' = w := by
  unfold rfV
  have hta : ∀ (x : TypeId) (v : Value) (W : World), (Instr.typeAssert (.iface 71 v) x 71 false).run Tryz.prog W = .ok v W := fun x v W => by kernel_rfl
  have hfl : ∀ (W : World), (Instr.field 71 (.agg #[.int .i64 k]) 0).run Tryz.prog W = .ok (.int .i64 k) W := fun W => by kernel_rfl
  go_enter Tryz.func23, Tryz.ntmps23
  go_wp2
  go_ret
  exact ⟨rfl, rfl⟩
theorem unclean_bad (s : ByteArray) (w : World) (hs : s.size ≤ 9223372036854775807) (hc : cln s = false) :
    Calls Tryz.prog 41 #[.string s] w fun e w' => e = .panicked (rfP 1) ∧ Below w.heap.size w w' := by
  have C := clean_str s w hs
  have hC : ((((decZ (bytesZ s)).2 : Nat) : Int) == (s.size : Int)) = cln s := rfl
  rw [hC, hc] at C
  clear hC hc
  have C := hide C
  go_enter Tryz.func41, Tryz.ntmps41
  go_wp2_with fail
  refine (unhide C).mono ?_
  rintro e w1 ⟨rfl, b1⟩
  clear C
  go_wp2_with fail
  refine (refuse_ok 1 w1).mono ?_
  rintro e w2 ⟨rfl, rfl⟩
  go_wp2
  exact ⟨rfl, rfl, b1⟩
theorem nms_has (fls : Fls) (k : Nat) (s : ByteArray) : Maps.has (Maps.setOf (H := Unit) (.agg []) ((nms fls).take k)) (.string s.data.toList) = (((fls.list.map (·.1)).take k).map (·.data.toList)).contains s.data.toList := by
  rw [Maps.has_setOf _ _ _ (nms_key fls k)]
  have e : (nms fls).take k = (((fls.list.map (·.1)).take k).map (·.data.toList)).map Lit.string := by
    unfold nms
    simp [List.map_take, Function.comp_def]
  rw [e, List.any_map]
  generalize (((fls.list.map (·.1)).take k).map (·.data.toList)) = L
  induction L with
  | nil => rfl
  | cons x r ih =>
    rw [List.any_cons, List.contains_cons, ih]
    congr 1
    show Lit.sameKey (.string x) (.string s.data.toList) = _
    cases h : (s.data.toList == x)
    · rw [Bool.eq_false_iff]
      intro h2
      have := WideAt.sameKey_eq h2
      injection this with this
      rw [this] at h
      simp at h
    · have : s.data.toList = x := by simpa using h
      rw [this]
      exact WideAt.sameKey_self trivial
set_option maxHeartbeats 4000000 in
set_option maxRecDepth 100000 in
theorem names_bad (fls : Fls) (a : Option Addr) (n c : Nat) (w : World) (h : FlsAt w fls a n) (hn : n ≤ 70368744177664) (hnc : n ≤ c) (E : Int) (hE : nmJ [] (fls.list.map (·.1)) = E) (h0 : E ≠ 0) :
    Calls Tryz.prog 43 #[.slice a n c] w fun e w' => e = .panicked (rfP E) ∧ Below w.heap.size w w' := by
  have hmm := mapHint
  have hsf := storeF
  have hsz := FlsAt.len fls a n h
  have hE0 := hide hE
  have h00 := hide h0
  clear hE h0
  go_enter Tryz.func43, Tryz.ntmps43
  go_wp2_with fail
  go_loopw [12] (fun vi wr => ∃ k : Nat, k ≤ n ∧ vi = .int .i64 k ∧ Hid (nmJ (((fls.list.map (·.1)).take k).map (·.data.toList)) ((fls.list.map (·.1)).drop k) = E) ∧ wr.ownsMap Tryz.prog 9 unitElem w.heap.size k (Maps.setOf (H := Unit) (.agg []) ((nms fls).take k)) ∧ Below w.heap.size w wr ∧ w.heap.size + 1 ≤ wr.heap.size) (fun vi _ => n - (intOf vi).toNat)
  case atStart => exact ⟨0, Nat.zero_le _, rfl, hE0, World.ownsMap_made _ _ _ _, (Below.refl _ _).alloc (Nat.le_refl _) _, by simp⟩
  case round =>
    obtain ⟨k, hk, rfl, hst, hown, hb, hs1⟩ := hrel
    by_cases hlt : k < n
    · obtain ⟨b, off, nm, v, cs, rfl, hg, hc0, hnm, hr, hv⟩ := FlsAt.get fls _ n h k hlt
      have hbw := World.block_lt_of_cell? w _ hc0
      have hbw : b < w.heap.size := hbw
      cases v with
      | mk kd bb ni f tx ty its fl =>
      unfold VlC at hv
      obtain ⟨ai, nI, ci, af, nf, cf, rfl, -⟩ := hv
      obtain ⟨r0, r1, r2, r3, r4, r5, r6, r7⟩ := hr.eight
      have d (j : Nat) (u : Value) (hj : w.cell? ⟨b, j, none⟩ = some u) : wr.cell? ⟨b, j, none⟩ = some u := (hb.cell (p := ⟨b, j, none⟩) hbw).trans hj
      have c0 := d _ _ hc0
      have c1 := d _ _ r0
      have c2 := d _ _ r1
      have c3 := d _ _ r2
      have c4 := d _ _ r3
      have c5 := d _ _ r4
      have c6 := d _ _ r5
      have c7 := d _ _ r6
      have c8 := d _ _ r7
      have hx : (nms fls)[k]? = some (.string nm.data.toList) := by simp [nms, hg]
      have hdr : (fls.list.map (·.1)).drop k = nm :: (fls.list.map (·.1)).drop (k + 1) := by
        have e : (fls.list.map (·.1))[k]? = some nm := by simp [hg]
        obtain ⟨hl, e2⟩ := List.getElem?_eq_some_iff.1 e
        rw [← e2]
        exact List.drop_eq_getElem_cons hl
      have htk : ((fls.list.map (·.1)).take (k + 1)).map (·.data.toList) = ((fls.list.map (·.1)).take k).map (·.data.toList) ++ [nm.data.toList] := by
        rw [List.take_add_one, List.getElem?_map, hg]
        simp
      have st := unhide hst
      rw [hdr] at st
      unfold nmJ at st
      have hhas := nms_has fls k nm
      have hsn := hide (nms_snoc hx)
      have hkey : keyOf Tryz.prog 9 (.string nm) = some (.string nm.data.toList) := Go.WideMaps.keyOf_string_mk Tryz.underlying9 hnm
      clear hdr hst
      cases hcl : cln nm
      · rw [hcl, if_pos rfl] at st
        have U := hide (fun W => unclean_bad nm W (by unfold maxLen at hnm; omega) hcl)
        have HE := hide st
        clear hcl st hhas htk hc0 r0 r1 r2 r3 r4 r5 r6 r7 hr hx hg d h hsz hown
        go_wp2_with fail
        refine (unhide U _).mono ?_
        rintro e w1 ⟨rfl, b1⟩
        have hb1 : Below w.heap.size w w1 := (hb.alloc (by omega) _).trans (b1.mono (by simp; omega))
        clear U c0 c1 c2 c3 c4 c5 c6 c7 c8 b1 hb
        go_wp2
        rw [← unhide HE]
        exact ⟨rfl, rfl, hb1⟩
      · rw [hcl, if_neg (by decide)] at st
        have U := hide (fun W => unclean_ok nm W (by unfold maxLen at hnm; omega) hcl)
        cases hco : (((fls.list.map (·.1)).take k).map (·.data.toList)).contains nm.data.toList
        · rw [hco] at st hhas
          rw [if_neg (by decide), ← htk] at st
          have ST := hide st
          have HH := hide hhas
          clear hco hcl st hhas htk hc0 r0 r1 r2 r3 r4 r5 r6 r7 hr hx hg d h hsz
          go_wp2_with fail
          refine (unhide U _).mono ?_
          rintro e w1 ⟨rfl, b1⟩
          clear U c0 c1 c2 c3 c4 c5 c6 c7 c8
          have hs2 : wr.heap.size + 1 ≤ w1.heap.size := by have := b1.size; simp at this; omega
          have x0 : w1.cell? ⟨wr.heap.size, 0, none⟩ = some (.string nm) := by
            rw [b1.cell (p := ⟨wr.heap.size, 0, none⟩) (by simp)]
            simp
          have x1 : ∀ o, (w1.alloc o).cell? ⟨wr.heap.size, 0, none⟩ = some (.string nm) := fun o => (((Below.refl w1.heap.size w1).alloc (Nat.le_refl _) o).cell (p := ⟨wr.heap.size, 0, none⟩) (show wr.heap.size < w1.heap.size by omega)).trans x0
          have hown1 := map_below (hown.alloc _) b1
          have hb1 : Below w.heap.size w w1 := (hb.alloc (by omega) _).trans (b1.mono (by simp; omega))
          have hsz1 : w.heap.size < w1.heap.size := by omega
          clear hown hb b1 hmm hsf
          go_wp2_with (first
            | (at_lookup; refine wpList_lookup_own_unit _ rfl _ _ 107 rfl 9 108 lawS Tryz.underlying107 (zeroU _) w.heap.size k _ rfl hown1 _ _ rfl hkey ?_; rw [unhide HH])
            | (at_mapUpdate; refine wpList_mapUpdate_own _ rfl _ _ _ 107 rfl 9 108 lawS Tryz.underlying107 (unitElem (H := Unit)) w.heap.size k _ rfl (hown1.alloc _) (by unfold maxLen; omega) _ _ _ rfl rfl hkey _ [] unitElem_mk ?_; intro w2 hown2 hgrow2)
            | go_in)
          have s2 := hgrow2.size
          simp at s2
          refine ⟨⟨k + 1, by omega, rfl, ST, ?_, ?_, by omega⟩, ?_⟩
          · rw [unhide hsn]; exact hown2
          · exact (hb1.alloc (by omega) _).grown hgrow2 (by simp; omega) (fun j hj => by cases hj; exact Nat.le_refl _)
          · simp only [intOf]
            omega
        · rw [hco] at st hhas
          rw [if_pos rfl] at st
          have HE := hide st
          have HH := hide hhas
          clear hco hcl st hhas htk hc0 r0 r1 r2 r3 r4 r5 r6 r7 hr hx hg d h hsz
          go_wp2_with fail
          refine (unhide U _).mono ?_
          rintro e w1 ⟨rfl, b1⟩
          clear U c0 c1 c2 c3 c4 c5 c6 c7 c8
          have x0 : w1.cell? ⟨wr.heap.size, 0, none⟩ = some (.string nm) := by
            rw [b1.cell (p := ⟨wr.heap.size, 0, none⟩) (by simp)]
            simp
          have hown1 := map_below (hown.alloc _) b1
          have hb1 : Below w.heap.size w w1 := (hb.alloc (by omega) _).trans (b1.mono (by simp; omega))
          have hsz1 : w.heap.size < w1.heap.size := by have := b1.size; simp at this; omega
          clear hown hb b1 hmm hsf
          go_wp2_with (first
            | (at_lookup; refine wpList_lookup_own_unit _ rfl _ _ 107 rfl 9 108 lawS Tryz.underlying107 (zeroU _) w.heap.size k _ rfl hown1 _ _ rfl hkey ?_; rw [unhide HH])
            | fail)
          refine (refuse_ok 5 _).mono ?_
          rintro e w2 ⟨rfl, rfl⟩
          go_wp2
          rw [← unhide HE]
          exact ⟨rfl, rfl, hb1.alloc (by omega) _⟩
    · have hz : (fls.list.map (·.1)).drop k = [] := by
        rw [List.drop_eq_nil_iff, List.length_map, hsz]
        omega
      have st := unhide hst
      rw [hz] at st
      exact absurd st.symm (unhide h00)
end Go.Proofs.YtechaplindbfoaaGreatDoor.jsn
namespace Go.Proofs.YtechaplindbfoaaGreatDoor.jsn
open Go.ChangeShapes Go.WideShapes Go.ChangeAt Go.RowKit
open mem Go.Maps
open vl hiding hide unhide Hid
open ints (hide unhide)
set_option linter.unusedVariables false
/-- what layValue does at a value that may not be written: it panics with its first fault -/
def CB (k : Nat) (cap : Array Value) (I : List UInt8 → World → Prop) (w0 : World) (v : Vl) : Prop :=
  ∀ (cs : List Value) (w' : World) (l : List UInt8), VlC w0 v cs → Below w0.heap.size w0 w' → I l w' → l.length + 1100 * wtV v ≤ 70368744177664 →
    Calls Tryz.prog 24 #[.agg cs.toArray, .func (.func k) #[] cap] w' fun e w'' => e = .panicked (rfP (jfE v)) ∧ (∃ l', I l' w'') ∧ Fr w0.heap.size w' w''
set_option maxHeartbeats 4000000 in
set_option maxRecDepth 100000 in
theorem list_bad (k : Nat) (cap : Array Value) (I : List UInt8 → World → Prop) (w0 : World) (hP : Pen k cap w0.heap.size I (Fr w0.heap.size)) (its : Vls) (a : Option Addr) (n c : Nat) (h : VlsAt w0 its a n) (hnc : n ≤ c) (hn : n ≤ 70368744177664) (HC : ∀ (i : Nat) (v : Vl), its.list[i]? = some v → jfE v = 0 → CH k cap I w0 v (js NZ v)) (HB : ∀ (i : Nat) (v : Vl), its.list[i]? = some v → jfE v ≠ 0 → CB k cap I w0 v) (HJ : ∀ (i : Nat) (v : Vl), its.list[i]? = some v → jfE v = 0 → (js NZ v).length + 10 ≤ 1100 * wtV v) (hz : jfL its ≠ 0) (w : World) (l : List UInt8) (hb : Below w0.heap.size w0 w) (hI : I l w) (hl : l.length + 100 + 1100 * wtI its ≤ 70368744177664) :
    Calls Tryz.prog 42 #[.slice a n c, .func (.func k) #[] cap] w fun e w' => e = .panicked (rfP (jfL its)) ∧ (∃ l', I l' w') ∧ Fr w0.heap.size w w' := by
  have en := hP.enters
  have hlen := VlsAt.len its a n h
  have HZ := hide hz
  clear hz
  have hsf := storeF
  go_enter Tryz.func42, Tryz.ntmps42
  go_wp2_with fail
  refine (hP.lays l ⟨#[91]⟩ w hI (by have : (⟨#[91]⟩ : ByteArray).size = 1 := rfl; omega)).mono ?_
  rintro e w1 ⟨rfl, i1, b1⟩
  go_wp2_with fail
  go_loopw [10] (fun vi wr => ∃ m : Nat, m ≤ n ∧ vi = .int .i64 m ∧ Hid (∀ (j : Nat) (u : Vl), j < m → its.list[j]? = some u → jfE u = 0) ∧ Hid (I (l ++ [91] ++ partsL (jsL NZ its) m) wr) ∧ Fr w0.heap.size w wr) (fun vi _ => n - (intOf vi).toNat)
  case atStart => exact ⟨0, Nat.zero_le _, rfl, hide (fun j u hj => by omega), hide (by simpa [partsL] using i1), b1⟩
  case round =>
    obtain ⟨m, hm, rfl, hpz, hi, hfr⟩ := hrel
    by_cases hlt : m < n
    · obtain ⟨b, off, v, cs, rfl, hg, hr, hv⟩ := VlsAt.get its _ n h m hlt
      have hp1 := partsL_len its m (by omega) (fun i u hi hu => HJ i u hu (unhide hpz i u hi hu))
      have hp2 := sum_snoc wtV its.list m v hg
      rw [← wtI_sum] at hp2
      have hp3 := com_len m
      have hjs := jsL_at NZ its m v hg
      have hch := hide (HC m v hg)
      have hcb := hide (HB m v hg)
      have hjv := hide (HJ m v hg)
      have hat := hide (fun h => jfL_at hg (unhide hpz) h)
      have hnx := hide (fun (h0 : jfE v = 0) j u (hj : j < m + 1) (hu : its.list[j]? = some u) => show jfE u = 0 from by
        rcases Nat.lt_or_ge j m with hc | hc
        · exact unhide hpz j u hc hu
        · obtain rfl : j = m := by omega
          rw [hg] at hu
          cases hu
          exact h0)
      have HV := hide hv
      cases v with
      | mk kd bb ni f tx ty it2 fl2 =>
      unfold VlC at hv
      obtain ⟨ai, nI, ci, af, nf, cf, rfl, -⟩ := hv
      obtain ⟨r0, r1, r2, r3, r4, r5, r6, r7⟩ := hr.eight
      have hbw : b < w0.heap.size := World.block_lt_of_cell? w0 _ r0
      have d (j : Nat) (u : Value) (hj : w0.cell? ⟨b, j, none⟩ = some u) : wr.cell? ⟨b, j, none⟩ = some u := ((hb.trans hfr.bel).cell (p := ⟨b, j, none⟩) hbw).trans hj
      have c1 := d _ _ r0
      have c2 := d _ _ r1
      have c3 := d _ _ r2
      have c4 := d _ _ r3
      have c5 := d _ _ r4
      have c6 := d _ _ r5
      have c7 := d _ _ r6
      have c8 := d _ _ r7
      have hlow := hP.low _ _ (unhide hi)
      clear r0 r1 r2 r3 r4 r5 r6 r7 hr hg d h HC HB HJ
      go_wp2_with fail
      have hnew : Below wr.heap.size wr (wr.alloc (.cells #[.int .i64 kd, .bool bb, .int .i64 ni, .float .f64 f, .string tx, .string ty, .slice ai nI ci, .slice af nf cf] 29)) := (Below.refl _ _).alloc (Nat.le_refl _) _
      have i2 := hP.keep _ _ _ (unhide hi) hnew
      have f2 := hfr.trans (Fr.new hlow hnew)
      refine (comma_ok k cap _ I _ hP m (by omega) _ _ i2 (by simp only [List.length_append, List.length_cons, List.length_nil]; omega)).mono ?_
      rintro e w2 ⟨rfl, i3, f3⟩
      have hblk : w2.heap[wr.heap.size]? = some (.cells #[.int .i64 kd, .bool bb, .int .i64 ni, .float .f64 f, .string tx, .string ty, .slice ai nI ci, .slice af nf cf] 29 (0, 0)) := f3.val _ _ _ _ (.inl rfl) (heap_alloc_new _ _)
      have e0 := Lib.cell_of_heap hblk 0
      have e1 := Lib.cell_of_heap hblk 1
      have e2 := Lib.cell_of_heap hblk 2
      have e3 := Lib.cell_of_heap hblk 3
      have e4 := Lib.cell_of_heap hblk 4
      have e5 := Lib.cell_of_heap hblk 5
      have e6 := Lib.cell_of_heap hblk 6
      have e7 := Lib.cell_of_heap hblk 7
      simp at e0 e1 e2 e3 e4 e5 e6 e7
      have j3 := hide i3
      have f4 := f2.trans f3
      clear i2 i3 f2 f3 hnew hblk c1 c2 c3 c4 c5 c6 c7 c8 hi hfr
      go_wp2_with fail
      by_cases hv0 : jfE (.mk kd bb ni f tx ty it2 fl2) = 0
      · have hjv' := unhide hjv hv0
        refine (unhide hch hv0 _ w2 _ (unhide HV) (hb.trans f4.bel) (unhide j3) (by simp only [List.length_append, List.length_cons, List.length_nil]; omega)).mono ?_
        rintro e w3 ⟨rfl, i5, f5⟩
        have j5 := hide i5
        have f6 := f4.trans f5
        have hnx2 := hide (unhide hnx hv0)
        clear i5 f5 f4 j3 e0 e1 e2 e3 e4 e5 e6 e7 hch HV hcb hjv hat hnx hv0 hjv'
        go_wp2
        refine ⟨⟨m + 1, by omega, rfl, hnx2, hide ?_, f6⟩, ?_⟩
        · have := unhide j5
          rw [← hjs] at this
          simpa only [partsL, List.append_assoc] using this
        · simp only [intOf]
          omega
      · refine (unhide hcb hv0 _ w2 _ (unhide HV) (hb.trans f4.bel) (unhide j3) (by simp only [List.length_append, List.length_cons, List.length_nil]; omega)).mono ?_
        rw [← unhide hat hv0]
        rintro e w3 ⟨rfl, i5, f5⟩
        have f6 := f4.trans f5
        clear f5 f4 j3 e0 e1 e2 e3 e4 e5 e6 e7 hch HV hcb hjv hat hnx hv0
        go_wp2
        exact ⟨rfl, rfl, i5, f6⟩
    · obtain rfl : m = n := by omega
      refine absurd (jfL_all.2 fun v hv => ?_) (unhide HZ)
      obtain ⟨j, hj, rfl⟩ := List.mem_iff_getElem.1 hv
      exact unhide hpz j _ (by omega) (List.getElem?_eq_getElem hj)
set_option maxHeartbeats 4000000 in
set_option maxRecDepth 100000 in
theorem obj_bad (k : Nat) (cap : Array Value) (I : List UInt8 → World → Prop) (w0 : World) (hP : Pen k cap w0.heap.size I (Fr w0.heap.size)) (fls : Fls) (a : Option Addr) (n c : Nat) (h : FlsAt w0 fls a n) (hnc : n ≤ c) (hn : n ≤ 70368744177664) (HC : ∀ (i : Nat) (p : ByteArray × Vl), fls.list[i]? = some p → jfE p.2 = 0 → CH k cap I w0 p.2 (js NZ p.2)) (HB : ∀ (i : Nat) (p : ByteArray × Vl), fls.list[i]? = some p → jfE p.2 ≠ 0 → CB k cap I w0 p.2) (HJ : ∀ (i : Nat) (p : ByteArray × Vl), fls.list[i]? = some p → jfE p.2 = 0 → (js NZ p.2).length + 10 ≤ 1100 * wtV p.2) (hz : jfF fls ≠ 0) (w : World) (l : List UInt8) (hb : Below w0.heap.size w0 w) (hI : I l w) (hl : l.length + 100 + 1100 * wtF fls ≤ 70368744177664) :
    Calls Tryz.prog 44 #[.slice a n c, .func (.func k) #[] cap] w fun e w' => e = .panicked (rfP (jfF fls)) ∧ (∃ l', I l' w') ∧ Fr w0.heap.size w w' := by
  have en := hP.enters
  have hlen := FlsAt.len fls a n h
  have HZ := hide hz
  clear hz
  have hsf := storeF
  go_enter Tryz.func44, Tryz.ntmps44
  go_wp2_with fail
  refine (hP.lays l ⟨#[123]⟩ w hI (by have : (⟨#[123]⟩ : ByteArray).size = 1 := rfl; omega)).mono ?_
  rintro e w1 ⟨rfl, i1, b1⟩
  go_wp2_with fail
  go_loopw [10] (fun vi wr => ∃ m : Nat, m ≤ n ∧ vi = .int .i64 m ∧ Hid (∀ (j : Nat) (u : ByteArray × Vl), j < m → fls.list[j]? = some u → jfE u.2 = 0) ∧ Hid (I (l ++ [123] ++ partsO (nmAt fls) (jsF NZ fls) m) wr) ∧ Fr w0.heap.size w wr) (fun vi _ => n - (intOf vi).toNat)
  case atStart => exact ⟨0, Nat.zero_le _, rfl, hide (fun j u hj => by omega), hide (by simpa [partsO] using i1), b1⟩
  case round =>
    obtain ⟨m, hm, rfl, hpz, hi, hfr⟩ := hrel
    by_cases hlt : m < n
    · obtain ⟨b, off, nmB, v, cs, rfl, hg, hc0, hnmB, hr, hv⟩ := FlsAt.get fls _ n h m hlt
      have hp1 := partsO_len fls m (by omega) (fun i u hi hu => HJ i u hu (unhide hpz i u hi hu))
      have hp2 := sum_snoc (fun q : ByteArray × Vl => q.1.size + wtV q.2) fls.list m _ hg
      rw [← wtF_sum] at hp2
      have hp3 := com_len m
      have hp4 := txt_le nmB
      have hjs := jsF_at NZ fls m _ hg
      have hnm := hide (nmAt_at fls hg)
      have hch := hide (HC m _ hg)
      have hcb := hide (HB m _ hg)
      have hjv := hide (HJ m _ hg)
      have hat := hide (fun h => jfF_at hg (unhide hpz) h)
      have hnx := hide (fun (h0 : jfE v = 0) j (u : ByteArray × Vl) (hj : j < m + 1) (hu : fls.list[j]? = some u) => show jfE u.2 = 0 from by
        rcases Nat.lt_or_ge j m with hc | hc
        · exact unhide hpz j u hc hu
        · obtain rfl : j = m := by omega
          rw [hg] at hu
          cases hu
          exact h0)
      simp only at hp2 hjs hch hcb hjv hat
      have HV := hide hv
      cases v with
      | mk kd bb ni f tx ty it2 fl2 =>
      unfold VlC at hv
      obtain ⟨ai, nI, ci, af, nf, cf, rfl, -⟩ := hv
      obtain ⟨r0, r1, r2, r3, r4, r5, r6, r7⟩ := hr.eight
      have hbw : b < w0.heap.size := World.block_lt_of_cell? w0 _ r0
      have d (j : Nat) (u : Value) (hj : w0.cell? ⟨b, j, none⟩ = some u) : wr.cell? ⟨b, j, none⟩ = some u := ((hb.trans hfr.bel).cell (p := ⟨b, j, none⟩) hbw).trans hj
      have c0 := d _ _ hc0
      have c1 := d _ _ r0
      have c2 := d _ _ r1
      have c3 := d _ _ r2
      have c4 := d _ _ r3
      have c5 := d _ _ r4
      have c6 := d _ _ r5
      have c7 := d _ _ r6
      have c8 := d _ _ r7
      have hlow := hP.low _ _ (unhide hi)
      clear hc0 r0 r1 r2 r3 r4 r5 r6 r7 hr hg d h HC HB HJ
      go_wp2_with fail
      have hnew : Below wr.heap.size wr (wr.alloc (.cells #[.string nmB, .int .i64 kd, .bool bb, .int .i64 ni, .float .f64 f, .string tx, .string ty, .slice ai nI ci, .slice af nf cf] 45)) := (Below.refl _ _).alloc (Nat.le_refl _) _
      have i2 := hP.keep _ _ _ (unhide hi) hnew
      have f2 := hfr.trans (Fr.new hlow hnew)
      refine (comma_ok k cap _ I _ hP m (by omega) _ _ i2 (by simp only [List.length_append, List.length_cons, List.length_nil]; omega)).mono ?_
      rintro e w2 ⟨rfl, i3, f3⟩
      have hblk : w2.heap[wr.heap.size]? = some (.cells #[.string nmB, .int .i64 kd, .bool bb, .int .i64 ni, .float .f64 f, .string tx, .string ty, .slice ai nI ci, .slice af nf cf] 45 (0, 0)) := f3.val _ _ _ _ (.inr rfl) (heap_alloc_new _ _)
      have e0 := Lib.cell_of_heap hblk 0
      simp at e0
      have j3 := hide i3
      have f4 := f2.trans f3
      have HB := hide hblk
      clear i2 i3 f2 f3 hnew hblk c0 c1 c2 c3 c4 c5 c6 c7 c8 hi hfr
      go_wp2_with fail
      refine (layText_any k cap _ I _ hP _ nmB _ (unhide j3) (by simp only [List.length_append, List.length_cons, List.length_nil]; omega)).mono ?_
      rintro e w3 ⟨rfl, i5, f5⟩
      have j5 := hide i5
      have f6 := f4.trans f5
      have HB3 := hide (f5.val _ _ _ _ (.inr rfl) (unhide HB))
      clear i5 f5 f4 j3 e0 HB
      go_wp2_with fail
      refine (hP.lays _ ⟨#[58]⟩ _ (unhide j5) (by have : (⟨#[58]⟩ : ByteArray).size = 1 := rfl; simp only [List.length_append, List.length_cons, List.length_nil]; omega)).mono ?_
      rintro e w4 ⟨rfl, i7, f7⟩
      have j7 := hide i7
      have f8 := f6.trans f7
      have hblk := f7.val _ _ _ _ (.inr rfl) (unhide HB3)
      have e1 := Lib.cell_of_heap hblk 1
      have e2 := Lib.cell_of_heap hblk 2
      have e3 := Lib.cell_of_heap hblk 3
      have e4 := Lib.cell_of_heap hblk 4
      have e5 := Lib.cell_of_heap hblk 5
      have e6 := Lib.cell_of_heap hblk 6
      have e7 := Lib.cell_of_heap hblk 7
      have e8 := Lib.cell_of_heap hblk 8
      simp at e1 e2 e3 e4 e5 e6 e7 e8
      clear i7 f7 f6 j5 HB3 hblk
      go_wp2_with fail
      by_cases hv0 : jfE (.mk kd bb ni f tx ty it2 fl2) = 0
      · have hjv' := unhide hjv hv0
        refine (unhide hch hv0 _ w4 _ (unhide HV) (hb.trans f8.bel) (unhide j7) (by have : (⟨#[58]⟩ : ByteArray).data.toList.length = 1 := rfl; simp only [List.length_append, List.length_cons, List.length_nil]; omega)).mono ?_
        rintro e w5 ⟨rfl, i9, f9⟩
        have j9 := hide i9
        have f10 := f8.trans f9
        have hnx2 := hide (unhide hnx hv0)
        clear i9 f9 f8 j7 e1 e2 e3 e4 e5 e6 e7 e8 hch HV hcb hjv hat hnx hv0 hjv'
        go_wp2
        refine ⟨⟨m + 1, by omega, rfl, hnx2, hide ?_, f10⟩, ?_⟩
        · have := unhide j9
          rw [← hjs, ← unhide hnm] at this
          simpa only [partsO, List.append_assoc] using this
        · simp only [intOf]
          omega
      · refine (unhide hcb hv0 _ w4 _ (unhide HV) (hb.trans f8.bel) (unhide j7) (by have : (⟨#[58]⟩ : ByteArray).data.toList.length = 1 := rfl; simp only [List.length_append, List.length_cons, List.length_nil]; omega)).mono ?_
        rw [← unhide hat hv0]
        rintro e w5 ⟨rfl, i9, f9⟩
        have f10 := f8.trans f9
        clear f9 f8 j7 e1 e2 e3 e4 e5 e6 e7 e8 hch HV hcb hjv hat hnx hv0
        go_wp2
        exact ⟨rfl, rfl, i9, f10⟩
    · obtain rfl : m = n := by omega
      refine absurd (jfF_all.2 fun v hv => ?_) (unhide HZ)
      obtain ⟨j, hj, rfl⟩ := List.mem_iff_getElem.1 hv
      exact unhide hpz j _ (by omega) (List.getElem?_eq_getElem hj)
end Go.Proofs.YtechaplindbfoaaGreatDoor.jsn
namespace Go.Proofs.YtechaplindbfoaaGreatDoor.jsn
open Go.ChangeShapes Go.WideShapes Go.ChangeAt Go.RowKit
open mem Go.Maps
open vl hiding hide unhide Hid
open ints (hide unhide)
set_option linter.unusedVariables false
theorem float_bad (k : Nat) (cap : Array Value) (f : Nat) (h : f < 18446744073709551616) (hb : fto.badF f = true) (w : World) :
    Calls Tryz.prog 40 #[.float .f64 f, .func (.func k) #[] cap] w fun e w' => e = .panicked (rfP 6) ∧ Below w.heap.size w w' := by
  have F := hide (fto.ftext_bad f w h hb)
  clear hb
  go_enter Tryz.func40, Tryz.ntmps40
  go_wp2_with fail
  refine (unhide F).mono ?_
  rintro e w1 ⟨rfl, b1⟩
  clear F
  go_wp2_with fail
  refine (refuse_ok 6 _).mono ?_
  rintro e w2 ⟨rfl, rfl⟩
  go_wp2
  exact ⟨rfl, rfl, b1⟩
set_option maxHeartbeats 8000000 in
set_option maxRecDepth 100000 in
theorem value_bad (k : Nat) (cap : Array Value) (I : List UInt8 → World → Prop) (w0 : World) (hN : NZ.Ok w0) (hP : Pen k cap w0.heap.size I (Fr w0.heap.size)) : ∀ v : Vl, FlV v → jfE v ≠ 0 → CB k cap I w0 v := by
  refine Vl.all ?_
  intro kd b n f tx ty its fls ihI ihF hfl hz cs w l hv hb hI hl
  unfold VlC at hv
  obtain ⟨ai, ni, ci, af, nf, cf, rfl, hvI, hvF, hni, hnf, -, -, -, -, htx, -, hci, hcf⟩ := hv
  have en := hP.enters
  have hsf := storeF
  have hlow := hP.low _ _ hI
  have hnew : Below w.heap.size w (w.alloc (.cells #[.int .i64 kd, .bool b, .int .i64 n, .float .f64 f, .string tx, .string ty, .slice ai ni ci, .slice af nf cf] 29)) := (Below.refl _ _).alloc (Nat.le_refl _) _
  have hI2 := hide (hP.keep _ _ _ hI hnew)
  have f2 := Fr.new hlow hnew
  clear hnew
  unfold FlV at hfl
  obtain ⟨-, hf64, hfI, hfF⟩ := hfl
  rw [wtV] at hl
  obtain ⟨E, hE⟩ : ∃ E, E = jfE (.mk kd b n f tx ty its fls) := ⟨_, rfl⟩
  rw [← hE] at hz ⊢
  unfold jfE at hE
  by_cases k012 : kd = 0 ∨ kd = 1 ∨ kd = 2
  · rw [if_pos k012] at hE
    exact absurd hE hz
  rw [if_neg k012] at hE
  have k0 : ¬ kd = 0 := fun h => k012 (.inl h)
  have k1 : ¬ kd = 1 := fun h => k012 (.inr (.inl h))
  have k2 : ¬ kd = 2 := fun h => k012 (.inr (.inr h))
  clear k012
  by_cases k3 : kd = 3
  · rw [if_pos k3] at hE
    subst k3
    have hbd : fto.badF f = true := by
      cases hq : fto.badF f
      · rw [hq] at hE; simp at hE; exact absurd hE hz
      · rfl
    rw [hbd, if_pos rfl] at hE
    have HE := hide hE
    have F := hide (fun W => float_bad k cap f hf64 hbd W)
    clear hE hbd ihI ihF k0 k1 k2 hz
    go_enter Tryz.func24, Tryz.ntmps24
    go_wp2_with fail
    refine (unhide F _).mono ?_
    rintro e w1 ⟨rfl, b1⟩
    have i1 := hP.keep _ _ _ (unhide hI2) b1
    clear F
    go_wp2
    rw [unhide HE]
    exact ⟨rfl, rfl, ⟨_, i1⟩, f2.trans (Fr.new (hP.low _ _ (unhide hI2)) b1)⟩
  rw [if_neg k3] at hE
  by_cases k4 : kd = 4
  · rw [if_pos k4] at hE
    subst k4
    have hbd : cln tx = false := by
      cases hq : cln tx
      · rfl
      · rw [hq] at hE; simp at hE; exact absurd hE hz
    rw [hbd, if_pos rfl] at hE
    have HE := hide hE
    have F := hide (fun W => unclean_bad tx W (by unfold maxLen at htx; omega) hbd)
    clear hE hbd ihI ihF k0 k1 k2 k3 hz
    go_enter Tryz.func24, Tryz.ntmps24
    go_wp2_with fail
    refine (unhide F _).mono ?_
    rintro e w1 ⟨rfl, b1⟩
    have i1 := hP.keep _ _ _ (unhide hI2) b1
    clear F
    go_wp2
    rw [unhide HE]
    exact ⟨rfl, rfl, ⟨_, i1⟩, f2.trans (Fr.new (hP.low _ _ (unhide hI2)) b1)⟩
  rw [if_neg k4] at hE
  by_cases k5 : kd = 5
  · rw [if_pos k5] at hE
    subst k5
    have hlen := VlsAt.len its _ _ hvI
    have hcnt : ni ≤ wtI its := by
      rw [wtI_sum, ← hlen]
      have : ∀ L : List Vl, L.length ≤ (L.map wtV).sum := by
        intro L
        induction L with
        | nil => simp
        | cons x r ih =>
          have : 1 ≤ wtV x := by cases x; rw [wtV]; omega
          rw [List.map_cons, List.sum_cons, List.length_cons]
          omega
      exact this _
    rw [hE] at hz
    have Q := hide (list_bad k cap I w0 hP its ai ni ci hvI hni (by omega) (fun i v hg h0 => value_ok NZ k cap I w0 hN hP v (okV_of v (hfI.all v (List.mem_of_getElem? hg)) h0)) (fun i v hg h0 => ihI v (List.mem_of_getElem? hg) (hfI.all v (List.mem_of_getElem? hg)) h0) (fun i v hg h0 => js_len v (hfI.all v (List.mem_of_getElem? hg)) h0) hz _ l (hb.trans f2.bel) (unhide hI2) (by omega))
    rw [← hE] at Q
    clear ihI ihF k0 k1 k2 k3 k4 hz hE
    go_enter Tryz.func24, Tryz.ntmps24
    go_wp2_with fail
    refine (unhide Q).mono ?_
    rintro e w1 ⟨rfl, i1, f1⟩
    go_wp2
    exact ⟨rfl, rfl, i1, f2.trans f1⟩
  rw [if_neg k5] at hE
  by_cases k6 : kd = 6
  · rw [if_pos k6] at hE
    subst k6
    have hlen := FlsAt.len fls _ _ hvF
    have hcnt : nf ≤ wtF fls := by
      rw [wtF_sum, ← hlen]
      have : ∀ L : List (ByteArray × Vl), L.length ≤ (L.map (fun q => q.1.size + wtV q.2)).sum := by
        intro L
        induction L with
        | nil => simp
        | cons x r ih =>
          have : 1 ≤ wtV x.2 := by rcases x with ⟨y, x⟩; cases x; simp only [wtV]; omega
          rw [List.map_cons, List.sum_cons, List.length_cons]
          omega
      exact this _
    by_cases hnm : nmJ [] (fls.list.map (·.1)) = 0
    · rw [if_pos hnm] at hE
      obtain ⟨h1, h2, -⟩ := nmJ_ok hnm
      rw [hE] at hz
      have M := hide (fun W hW => names_ok fls af nf cf W (FlsAt.below hW fls _ _ hvF) (by omega) hnf (fun p hp => h1 _ (List.mem_map.2 ⟨p, hp, rfl⟩)) (nms_nodup h2))
      have Q := hide (fun w' l hb hI hl => obj_bad k cap I w0 hP fls af nf cf hvF hnf (by omega) (fun i p hg h0 => value_ok NZ k cap I w0 hN hP p.2 (okV_of p.2 (hfF.all p (List.mem_of_getElem? hg)) h0)) (fun i p hg h0 => ihF p (List.mem_of_getElem? hg) (hfF.all p (List.mem_of_getElem? hg)) h0) (fun i p hg h0 => js_len p.2 (hfF.all p (List.mem_of_getElem? hg)) h0) hz w' l hb hI hl)
      rw [← hE] at Q
      clear ihI ihF k0 k1 k2 k3 k4 k5 hz hE h1 h2 hnm
      go_enter Tryz.func24, Tryz.ntmps24
      go_wp2_with fail
      refine (unhide M _ (hb.trans f2.bel)).mono ?_
      rintro e w1 ⟨rfl, b1⟩
      clear M
      have i1 := hP.keep _ _ _ (unhide hI2) b1
      have f3 := f2.trans (Fr.new (hP.low _ _ (unhide hI2)) b1)
      have q2 := hide (unhide Q w1 l (hb.trans f3.bel) i1 (by omega))
      clear Q
      have x7 : w1.cell? ⟨w.heap.size, 7, none⟩ = some (.slice af nf cf) := by
        rw [b1.cell (p := ⟨w.heap.size, 7, none⟩) (by simp)]
        simp
      go_wp2_with fail
      refine (unhide q2).mono ?_
      rintro e w2 ⟨rfl, i2, f4⟩
      go_wp2
      exact ⟨rfl, rfl, i2, f3.trans f4⟩
    · rw [if_neg hnm] at hE
      have M := hide (fun W hW => names_bad fls af nf cf W (FlsAt.below hW fls _ _ hvF) (by omega) hnf E hE.symm hz)
      clear ihI ihF k0 k1 k2 k3 k4 k5 hz hE hnm
      go_enter Tryz.func24, Tryz.ntmps24
      go_wp2_with fail
      refine (unhide M _ (hb.trans f2.bel)).mono ?_
      rintro e w1 ⟨rfl, b1⟩
      have i1 := hP.keep _ _ _ (unhide hI2) b1
      clear M
      go_wp2
      exact ⟨rfl, rfl, ⟨_, i1⟩, f2.trans (Fr.new (hP.low _ _ (unhide hI2)) b1)⟩
  rw [if_neg k6] at hE
  have HE := hide hE
  clear hE ihI ihF hz
  go_enter Tryz.func24, Tryz.ntmps24
  go_wp2_with fail
  refine (refuse_ok 2 _).mono ?_
  rintro e w1 ⟨rfl, rfl⟩
  go_wp2
  rw [unhide HE]
  exact ⟨rfl, rfl, ⟨_, unhide hI2⟩, f2⟩
end Go.Proofs.YtechaplindbfoaaGreatDoor.jsn
namespace Go.Proofs.YtechaplindbfoaaGreatDoor.jsn
open Go.ChangeShapes Go.WideShapes Go.ChangeAt Go.RowKit
open mem Go.Maps
open vl hiding hide unhide Hid
open ints (hide unhide)
set_option linter.unusedVariables false
theorem catch_wp (b1 b2 : Nat) (k : Int) (x : Value) (y : Int) (older : List PanicEntry) (w : World) (hne : b1 ≠ b2) (c1 : w.cell? ⟨b1, 0, none⟩ = some x) (z1 : w.frozen? ⟨b1, 0, none⟩ = false) (c2 : w.cell? ⟨b2, 0, none⟩ = some (.int .i64 y)) (z2 : w.frozen? ⟨b2, 0, none⟩ = false) :
    CallsD Tryz.prog 26 #[.pointer (some ⟨b1, 0, none⟩), .pointer (some ⟨b2, 0, none⟩)] (.panicking ({ v := rfV k, recovered := false } :: older)) w fun e u' w' => e = .returned (.tuple #[]) ∧ u' = .panicking ({ v := rfV k, recovered := true } :: older) ∧ w' = (w.setCell ⟨b1, 0, none⟩ (.slice none 0 0)).setCell ⟨b2, 0, none⟩ (.int .i64 k) := by
  have R := reason_ok k w
  unfold rfV at R ⊢
  replace R := hide R
  refine callsD_of_wpS Tryz.func26 rfl fun c₀ cs hu => ?_
  apply wpS_seq
  apply wpS_region
  simp [wpOpsS, go_sem, recoverD, hu, Tryz.ntmps26, Exit.thenS]
  refine wpS_of_wp ?_
  clear hu
  go_wp2_with fail
  refine (unhide R).mono ?_
  rintro e w1 ⟨rfl, rfl⟩
  go_wp2
  cases c₀
  simp_all [bodyPostS, results, Tryz.results26]
theorem catch_sp (b1 b2 : Nat) (k : Int) (x y : Int) (older : List PanicEntry) (w : World) (hne : b1 ≠ b2) (c1 : w.cell? ⟨b1, 0, none⟩ = some (.int .i64 x)) (z1 : w.frozen? ⟨b1, 0, none⟩ = false) (c2 : w.cell? ⟨b2, 0, none⟩ = some (.int .i64 y)) (z2 : w.frozen? ⟨b2, 0, none⟩ = false) :
    CallsD Tryz.prog 22 #[.pointer (some ⟨b1, 0, none⟩), .pointer (some ⟨b2, 0, none⟩)] (.panicking ({ v := rfV k, recovered := false } :: older)) w fun e u' w' => e = .returned (.tuple #[]) ∧ u' = .panicking ({ v := rfV k, recovered := true } :: older) ∧ w' = (w.setCell ⟨b1, 0, none⟩ (.int .i64 0)).setCell ⟨b2, 0, none⟩ (.int .i64 k) := by
  have R := reason_ok k w
  unfold rfV at R ⊢
  replace R := hide R
  refine callsD_of_wpS Tryz.func22 rfl fun c₀ cs hu => ?_
  apply wpS_seq
  apply wpS_region
  simp [wpOpsS, go_sem, recoverD, hu, Tryz.ntmps22, Exit.thenS]
  refine wpS_of_wp ?_
  clear hu
  go_wp2_with fail
  refine (unhide R).mono ?_
  rintro e w1 ⟨rfl, rfl⟩
  go_wp2
  cases c₀
  simp_all [bodyPostS, results, Tryz.results22]
set_option maxHeartbeats 4000000 in
set_option maxRecDepth 100000 in
theorem write_bad (v : Vl) (cs : List Value) (w : World) (hN : NZ.Ok w) (hv : VlC w v cs) (hfl : FlV v) (hz : jfE v ≠ 0) (hl : 1100 * wtV v ≤ 70368744177664) :
    Calls Tryz.prog 13 #[.agg cs.toArray] w fun e w' => e = .returned (.tuple #[.slice none 0 0, .int .i64 (jfE v)]) ∧ Below w.heap.size w w' := by
  have hmf : ∀ (fn : Fn) (first cap : Array Value) (w : World), (Instr.makeFunc fn first cap).run Tryz.prog w = .ok (.func fn first cap) w := fun _ _ _ _ => rfl
  have hsf := storeF
  have HV := hide hv
  obtain ⟨E, hE⟩ : ∃ E, E = jfE v := ⟨_, rfl⟩
  rw [← hE]
  have HE := hide hE
  clear hE
  cases v with
  | mk kd bb ni f tx ty its fl =>
  unfold VlC at hv
  obtain ⟨ai, nI, ci, af, nf, cf, rfl, -⟩ := hv
  go_enter_defers Tryz.func13, Tryz.ntmps13
  go_wp2_with fail
  have hb : Below w.heap.size w (((w.alloc (.cells #[.int .i64 kd, .bool bb, .int .i64 ni, .float .f64 f, .string tx, .string ty, .slice ai nI ci, .slice af nf cf] 29)).alloc (.cells #[.slice none 0 0] 34)).alloc (.cells #[.int .i64 0] 31)) := (((Below.refl _ _).alloc (Nat.le_refl _) _).alloc (by simp) _).alloc (by simp; omega) _
  have hI : wI w.heap.size (w.heap.size + 1) (w.heap.size + 1 + 1) [] (((w.alloc (.cells #[.int .i64 kd, .bool bb, .int .i64 ni, .float .f64 f, .string tx, .string ty, .slice ai nI ci, .slice af nf cf] 29)).alloc (.cells #[.slice none 0 0] 34)).alloc (.cells #[.int .i64 0] 31)) := by
    refine ⟨⟨by omega, by omega, by simp⟩, ?_, .slice none 0 0, ?_, World.ownsRow_nil _ _ _ _⟩
    · have := heap_alloc_new ((w.alloc (.cells #[.int .i64 kd, .bool bb, .int .i64 ni, .float .f64 f, .string tx, .string ty, .slice ai nI ci, .slice af nf cf] 29)).alloc (.cells #[.slice none 0 0] 34)) (.cells #[.int .i64 0] 31)
      simpa using this
    · have := heap_alloc_new (w.alloc (.cells #[.int .i64 kd, .bool bb, .int .i64 ni, .float .f64 f, .string tx, .string ty, .slice ai nI ci, .slice af nf cf] 29)) (.cells #[.slice none 0 0] 34)
      exact (Below.heap_alloc _ _ _ (by simp)).trans (by simpa using this)
  refine (value_bad _ _ (wI w.heap.size (w.heap.size + 1) (w.heap.size + 1 + 1)) w hN (pen_w _ _ _) _ hfl hz _ _ [] (unhide HV) hb hI (by simpa using hl)).mono ?_
  rw [← unhide HE]
  clear HE
  rintro e w1 ⟨rfl, ⟨l', i1⟩, f1⟩
  obtain ⟨⟨-, -, h3⟩, h4, r, h5, h6⟩ := i1
  have c4 : w1.cell? ⟨w.heap.size + 1 + 1, 0, none⟩ = some (.int .i64 0) := by rw [Lib.cell_of_heap h4]; rfl
  have c5 : w1.cell? ⟨w.heap.size + 1, 0, none⟩ = some r := by rw [Lib.cell_of_heap h5]; rfl
  have z4 : w1.frozen? ⟨w.heap.size + 1 + 1, 0, none⟩ = false := Lib.frozen_of_heap h4 0
  have z5 : w1.frozen? ⟨w.heap.size + 1, 0, none⟩ = false := Lib.frozen_of_heap h5 0
  have HB := hide (hb.trans f1.bel)
  clear h4 h5 h6 hb hI f1 hN hfl hz HV hsf
  go_wp2
  have b2 : Below w.heap.size w ((w1.setCell ⟨w.heap.size + 1, 0, none⟩ (.slice none 0 0)).setCell ⟨w.heap.size + 1 + 1, 0, none⟩ (.int .i64 E)) := ((unhide HB).setCell (p := ⟨w.heap.size + 1, 0, none⟩) (by simp) _).setCell (p := ⟨w.heap.size + 1 + 1, 0, none⟩) (by simp; omega) _
  have x5 : ((w1.setCell ⟨w.heap.size + 1, 0, none⟩ (.slice none 0 0)).setCell ⟨w.heap.size + 1 + 1, 0, none⟩ (.int .i64 E)).cell? ⟨w.heap.size + 1, 0, none⟩ = some (.slice none 0 0) := by
    rw [World.cell?_setCell_other _ _ _ _ (by simp), World.cell?_setCell_same (h := c5)]
  have x4 : ((w1.setCell ⟨w.heap.size + 1, 0, none⟩ (.slice none 0 0)).setCell ⟨w.heap.size + 1 + 1, 0, none⟩ (.int .i64 E)).cell? ⟨w.heap.size + 1 + 1, 0, none⟩ = some (.int .i64 E) := by
    have q : (w1.setCell ⟨w.heap.size + 1, 0, none⟩ (.slice none 0 0)).cell? ⟨w.heap.size + 1 + 1, 0, none⟩ = some (.int .i64 0) := by
      rw [World.cell?_setCell_other _ _ _ _ (by simp)]
      exact c4
    rw [World.cell?_setCell_same (h := q)]
  obtain ⟨W2, hW2⟩ : ∃ W2, W2 = ((w1.setCell ⟨w.heap.size + 1, 0, none⟩ (.slice none 0 0)).setCell ⟨w.heap.size + 1 + 1, 0, none⟩ (.int .i64 E)) := ⟨_, rfl⟩
  have C := hide (catch_wp (w.heap.size + 1) (w.heap.size + 1 + 1) E _ 0 [] w1 (by omega) c5 z5 c4 z4)
  rw [← hW2] at b2 x5 x4 C
  clear hW2
  refine leaves_cons (f := 26) (args := #[.pointer (some ⟨w.heap.size + 1, 0, none⟩), .pointer (some ⟨w.heap.size + 1 + 1, 0, none⟩)]) (by simp) (by simp [go_sem]) ?_
  refine (unhide C).mono ?_
  rintro e u' w'' ⟨rfl, rfl, rfl⟩
  simp [Leaves, settle, results, Tryz.results13, go_sem, x4, x5]
  exact b2
set_option maxHeartbeats 4000000 in
set_option maxRecDepth 100000 in
theorem size_bad (v : Vl) (cs : List Value) (w : World) (hN : NZ.Ok w) (hv : VlC w v cs) (hfl : FlV v) (hz : jfE v ≠ 0) (hl : 1100 * wtV v ≤ 70368744177664) :
    Calls Tryz.prog 12 #[.agg cs.toArray] w fun e w' => e = .returned (.tuple #[.int .i64 0, .int .i64 (jfE v)]) ∧ Below w.heap.size w w' := by
  have hmf : ∀ (fn : Fn) (first cap : Array Value) (w : World), (Instr.makeFunc fn first cap).run Tryz.prog w = .ok (.func fn first cap) w := fun _ _ _ _ => rfl
  have hsf := storeF
  have HV := hide hv
  obtain ⟨E, hE⟩ : ∃ E, E = jfE v := ⟨_, rfl⟩
  rw [← hE]
  have HE := hide hE
  clear hE
  cases v with
  | mk kd bb ni f tx ty its fl =>
  unfold VlC at hv
  obtain ⟨ai, nI, ci, af, nf, cf, rfl, -⟩ := hv
  go_enter_defers Tryz.func12, Tryz.ntmps12
  go_wp2_with fail
  have hb : Below w.heap.size w (((w.alloc (.cells #[.int .i64 kd, .bool bb, .int .i64 ni, .float .f64 f, .string tx, .string ty, .slice ai nI ci, .slice af nf cf] 29)).alloc (.cells #[.int .i64 0] 3)).alloc (.cells #[.int .i64 0] 31)) := (((Below.refl _ _).alloc (Nat.le_refl _) _).alloc (by simp) _).alloc (by simp; omega) _
  have hI : sI w.heap.size (w.heap.size + 1) (w.heap.size + 1 + 1) [] (((w.alloc (.cells #[.int .i64 kd, .bool bb, .int .i64 ni, .float .f64 f, .string tx, .string ty, .slice ai nI ci, .slice af nf cf] 29)).alloc (.cells #[.int .i64 0] 3)).alloc (.cells #[.int .i64 0] 31)) := by
    refine ⟨⟨by omega, by omega⟩, ?_, ?_, by simp⟩
    · have := heap_alloc_new ((w.alloc (.cells #[.int .i64 kd, .bool bb, .int .i64 ni, .float .f64 f, .string tx, .string ty, .slice ai nI ci, .slice af nf cf] 29)).alloc (.cells #[.int .i64 0] 3)) (.cells #[.int .i64 0] 31)
      simpa using this
    · have := heap_alloc_new (w.alloc (.cells #[.int .i64 kd, .bool bb, .int .i64 ni, .float .f64 f, .string tx, .string ty, .slice ai nI ci, .slice af nf cf] 29)) (.cells #[.int .i64 0] 3)
      exact (Below.heap_alloc _ _ _ (by simp)).trans (by simpa using this)
  refine (value_bad _ _ (sI w.heap.size (w.heap.size + 1) (w.heap.size + 1 + 1)) w hN (pen_s _ _ _) _ hfl hz _ _ [] (unhide HV) hb hI (by simpa using hl)).mono ?_
  rw [← unhide HE]
  clear HE
  rintro e w1 ⟨rfl, ⟨l', i1⟩, f1⟩
  obtain ⟨-, h4, h5, -⟩ := i1
  obtain ⟨L, hL⟩ : ∃ L, L = l'.length := ⟨_, rfl⟩
  rw [← hL] at h5
  clear hL hl
  have c4 : w1.cell? ⟨w.heap.size + 1 + 1, 0, none⟩ = some (.int .i64 0) := by rw [Lib.cell_of_heap h4]; rfl
  have c5 : w1.cell? ⟨w.heap.size + 1, 0, none⟩ = some (.int .i64 L) := by rw [Lib.cell_of_heap h5]; rfl
  have z4 : w1.frozen? ⟨w.heap.size + 1 + 1, 0, none⟩ = false := Lib.frozen_of_heap h4 0
  have z5 : w1.frozen? ⟨w.heap.size + 1, 0, none⟩ = false := Lib.frozen_of_heap h5 0
  have HB := hide (hb.trans f1.bel)
  clear h4 h5 hb hI f1 hN hfl hz HV hsf
  go_wp2
  have b2 : Below w.heap.size w ((w1.setCell ⟨w.heap.size + 1, 0, none⟩ (.int .i64 0)).setCell ⟨w.heap.size + 1 + 1, 0, none⟩ (.int .i64 E)) := ((unhide HB).setCell (p := ⟨w.heap.size + 1, 0, none⟩) (by simp) _).setCell (p := ⟨w.heap.size + 1 + 1, 0, none⟩) (by simp; omega) _
  have x5 : ((w1.setCell ⟨w.heap.size + 1, 0, none⟩ (.int .i64 0)).setCell ⟨w.heap.size + 1 + 1, 0, none⟩ (.int .i64 E)).cell? ⟨w.heap.size + 1, 0, none⟩ = some (.int .i64 0) := by
    rw [World.cell?_setCell_other _ _ _ _ (by simp), World.cell?_setCell_same (h := c5)]
  have x4 : ((w1.setCell ⟨w.heap.size + 1, 0, none⟩ (.int .i64 0)).setCell ⟨w.heap.size + 1 + 1, 0, none⟩ (.int .i64 E)).cell? ⟨w.heap.size + 1 + 1, 0, none⟩ = some (.int .i64 E) := by
    have q : (w1.setCell ⟨w.heap.size + 1, 0, none⟩ (.int .i64 0)).cell? ⟨w.heap.size + 1 + 1, 0, none⟩ = some (.int .i64 0) := by
      rw [World.cell?_setCell_other _ _ _ _ (by simp)]
      exact c4
    rw [World.cell?_setCell_same (h := q)]
  obtain ⟨W2, hW2⟩ : ∃ W2, W2 = ((w1.setCell ⟨w.heap.size + 1, 0, none⟩ (.int .i64 0)).setCell ⟨w.heap.size + 1 + 1, 0, none⟩ (.int .i64 E)) := ⟨_, rfl⟩
  have C := hide (catch_sp (w.heap.size + 1) (w.heap.size + 1 + 1) E _ 0 [] w1 (by omega) c5 z5 c4 z4)
  rw [← hW2] at b2 x5 x4 C
  clear hW2
  refine leaves_cons (f := 22) (args := #[.pointer (some ⟨w.heap.size + 1, 0, none⟩), .pointer (some ⟨w.heap.size + 1 + 1, 0, none⟩)]) (by simp) (by simp [go_sem]) ?_
  refine (unhide C).mono ?_
  rintro e u' w'' ⟨rfl, rfl, rfl⟩
  simp [Leaves, settle, results, Tryz.results12, go_sem, x4, x5]
  exact b2
/-- what Write writes of any value -/
noncomputable def wv (v : Vl) : List UInt8 := if jfE v = 0 then js NZ v else []
theorem write_any (v : Vl) (cs : List Value) (w : World) (hF : fto.Fx w) (hv : VlC w v cs) (hfl : FlV v) (hl : 1100 * wtV v ≤ 70368744177664) :
    Calls Tryz.prog 13 #[.agg cs.toArray] w fun e w' => ∃ r, e = .returned (.tuple #[r, .int .i64 (jfE v)]) ∧ w'.ownsRow w.heap.size 5 1 r (wv v).length (Lib.byteCells (wv v)) ∧ Below w.heap.size w w' := by
  unfold wv
  by_cases h0 : jfE v = 0
  · rw [if_pos h0, h0]
    exact write_ok NZ v cs w (nz_ok hF) hv (okV_of v hfl h0) (by have := js_len v hfl h0; omega)
  · rw [if_neg h0]
    refine (write_bad v cs w (nz_ok hF) hv hfl h0 hl).mono ?_
    rintro e w1 ⟨rfl, b1⟩
    exact ⟨_, rfl, World.ownsRow_nil _ _ _ _, b1⟩
theorem size_any (v : Vl) (cs : List Value) (w : World) (hF : fto.Fx w) (hv : VlC w v cs) (hfl : FlV v) (hl : 1100 * wtV v ≤ 70368744177664) :
    Calls Tryz.prog 12 #[.agg cs.toArray] w fun e w' => e = .returned (.tuple #[.int .i64 (wv v).length, .int .i64 (jfE v)]) ∧ Below w.heap.size w w' := by
  unfold wv
  by_cases h0 : jfE v = 0
  · rw [if_pos h0, h0]
    exact size_ok NZ v cs w (nz_ok hF) hv (okV_of v hfl h0) (by have := js_len v hfl h0; omega)
  · rw [if_neg h0]
    exact size_bad v cs w (nz_ok hF) hv hfl h0 hl
end Go.Proofs.YtechaplindbfoaaGreatDoor.jsn
namespace Go.Proofs.YtechaplindbfoaaGreatDoor.jsn
open Go.ChangeShapes Go.WideShapes Go.ChangeAt Go.RowKit
open mem
set_option linter.unusedVariables false

def zB (l : List UInt8) : List Int := l.map fun b => (b.toNat : Int)
theorem zB_app (a b : List UInt8) : zB (a ++ b) = zB a ++ zB b := by simp [zB]
theorem zB_inj : ∀ {a b : List UInt8}, zB a = zB b → a = b
  | [], [], _ => rfl
  | [], _ :: _, h => by simp [zB] at h
  | _ :: _, [], h => by simp [zB] at h
  | x :: a, y :: b, h => by
    simp only [zB, List.map_cons, List.cons.injEq] at h
    have h1 : x = y := UInt8.toNat_inj.1 (by exact_mod_cast h.1)
    rw [h1, zB_inj (a := a) (b := b) h.2]
/-- what the reference lays for a character below 128 -/
def chr7 (c : Int) : List Int := zB (escU (UInt8.ofNat c.toNat))
def chrZ (c : Int) : List Int := if c < 128 then chr7 c else putB c
theorem esc_hi (c : UInt8) (h : 128 ≤ c.toNat) : escU c = [c] := by
  have : ∀ n, n < 256 → 128 ≤ n → escU (UInt8.ofNat n) = [UInt8.ofNat n] := by decide +kernel
  have e : UInt8.ofNat c.toNat = c := UInt8.ofNat_toNat
  have := this c.toNat (UInt8.toNat_lt c) h
  rw [e] at this
  exact this
theorem body_hi : ∀ (l : List UInt8), (∀ z ∈ zB l, 128 ≤ z) → body l = l
  | [], _ => rfl
  | c :: l, h => by
    have e : body (c :: l) = escU c ++ body l := by simp [body]
    have h1 : (128 : Int) ≤ (c.toNat : Int) := h _ (by simp [zB])
    rw [e, esc_hi c (by omega), body_hi l (fun z hz => h z (by simp only [zB, List.map_cons, List.mem_cons]; exact .inr hz))]
    rfl
theorem body_put (c : Int) (h : scP c) (l : List UInt8) (hl : zB l = putB c) : zB (body l) = chrZ c := by
  unfold chrZ
  by_cases h7 : c < 128
  · rw [if_pos h7]
    have hp : putB c = [c] := by unfold putB; rw [if_pos (by omega)]
    rw [hp] at hl
    have h0 : 0 ≤ c := by unfold scP at h; omega
    match l, hl with
    | [b], hl =>
      simp only [zB, List.map_cons, List.map_nil, List.cons.injEq, and_true] at hl
      have e : UInt8.ofNat c.toNat = b := by rw [← hl]; simp
      rw [body_one]; unfold chr7; rw [e]
    | [], hl => simp [zB] at hl
    | _ :: _ :: _, hl => simp [zB] at hl
  · rw [if_neg h7, body_hi l ?_, hl]
    rw [hl]
    intro z hz
    unfold scP at h
    unfold putB at hz
    rw [if_neg (by omega)] at hz
    split at hz
    · simp only [List.mem_cons, List.not_mem_nil, or_false] at hz; omega
    · split at hz
      · simp only [List.mem_cons, List.not_mem_nil, or_false] at hz; omega
      · simp only [List.mem_cons, List.not_mem_nil, or_false] at hz; omega
theorem body_flat : ∀ (zs : List Int) (l : List UInt8), (∀ c ∈ zs, scP c) → zB l = zs.flatMap putB → zB (body l) = zs.flatMap chrZ
  | [], l, _, hl => by
    have : l = [] := by simpa [zB] using hl
    rw [this]; rfl
  | c :: zs, l, hs, hl => by
    rw [List.flatMap_cons] at hl ⊢
    have hlen : (putB c).length ≤ l.length := by
      have := congrArg List.length hl
      simp [zB] at this
      omega
    have h1 : zB (l.take (putB c).length) = putB c := by
      have : zB (l.take (putB c).length) = (zB l).take (putB c).length := by simp [zB, List.map_take]
      rw [this, hl, List.take_left']
      rfl
    have h2 : zB (l.drop (putB c).length) = zs.flatMap putB := by
      have : zB (l.drop (putB c).length) = (zB l).drop (putB c).length := by simp [zB, List.map_drop]
      rw [this, hl, List.drop_left']
      rfl
    have e : l = l.take (putB c).length ++ l.drop (putB c).length := (List.take_append_drop _ _).symm
    rw [e, body_app, zB_app, body_put c (hs c (by simp)) _ h1, body_flat zs _ (fun d hd => hs d (by simp [hd])) h2]
end Go.Proofs.YtechaplindbfoaaGreatDoor.jsn
namespace Go.Proofs.YtechaplindbfoaaGreatDoor.jsn
open Go.ChangeShapes Go.WideShapes Go.ChangeAt Go.RowKit
open mem Go.Maps
open vl hiding hide unhide Hid
open ints (hide unhide)
set_option linter.unusedVariables false
def N0 : Nums := ⟨fun _ => False, fun _ => [], fun _ => False, fun _ => []⟩
theorem n0_ok (w0 : World) : N0.Ok w0 := ⟨fun _ _ h _ => h.elim, fun _ _ h _ => h.elim, fun _ h => h.elim⟩
def emV (kd : Int) : Vl := .mk kd false 0 0 ⟨#[]⟩ ⟨#[]⟩ .nil .nil
def exV : Vl := .mk 6 false 0 0 ⟨#[]⟩ ⟨#[]⟩ .nil (.cons ⟨#[98]⟩ (emV 5) (.cons ⟨#[97]⟩ (emV 6) (.cons ⟨#[]⟩ (emV 0) .nil)))
theorem ex_ok : okV N0 exV := by
  unfold exV okV
  refine .inr (.inr (.inr (.inr (.inr (.inr ⟨rfl, ?_, ?_, ?_⟩)))))
  · intro p hp
    simp only [Fls.list, List.mem_cons, List.not_mem_nil, or_false] at hp
    rcases hp with rfl | rfl | rfl <;> decide +kernel
  · show (nms _).Nodup
    simp [nms, Fls.list]
  · simp [okF, okV, okL, emV, Fls.list, nms]
theorem ex_js : js N0 exV = [123, 34, 98, 34, 58, 91, 93, 44, 34, 97, 34, 58, 123, 125, 44, 34, 34, 58, 110, 117, 108, 108, 125] := by decide +kernel
theorem em_at (w : World) (kd : Int) (hk : (Lit.int .i64 kd).wf = true) : VlC w (emV kd) [.int .i64 kd, .bool false, .int .i64 0, .float .f64 0, .string ⟨#[]⟩, .string ⟨#[]⟩, .slice none 0 0, .slice none 0 0] := by
  unfold emV VlC
  exact ⟨none, 0, 0, none, 0, 0, rfl, by unfold VlsAt; rfl, by unfold FlsAt; rfl, Nat.le_refl _, Nat.le_refl _, fun _ => rfl, fun _ => rfl, hk, rfl, Nat.zero_le _, Nat.zero_le _, Nat.zero_le _, Nat.zero_le _⟩
theorem heap_alloc_at {w : World} {o : Obj} {n : Nat} (h : n = w.heap.size) : (w.alloc o).heap[n]? = some o := by subst h; exact heap_alloc_new _ _
theorem row8_cut {W : World} {b : Nat} {arr : Array Value} {T : TypeId} {fr : Nat × Nat} (h : W.heap[b]? = some (.cells arr T fr)) (off : Nat) : Row8 W b off ((arr.toList.drop off).take 8) := by
  intro i u hu
  rw [Lib.cell_of_heap h]
  rw [List.getElem?_take] at hu
  split at hu
  · rw [List.getElem?_drop] at hu
    simpa using hu
  · cases hu
theorem ex_at {W : World} {b : Nat} {T : TypeId} {fr : Nat × Nat} (h : W.heap[b]? = some (.cells #[.string ⟨#[98]⟩, .int .i64 5, .bool false, .int .i64 0, .float .f64 0, .string ⟨#[]⟩, .string ⟨#[]⟩, .slice none 0 0, .slice none 0 0,
    .string ⟨#[97]⟩, .int .i64 6, .bool false, .int .i64 0, .float .f64 0, .string ⟨#[]⟩, .string ⟨#[]⟩, .slice none 0 0, .slice none 0 0,
    .string ⟨#[]⟩, .int .i64 0, .bool false, .int .i64 0, .float .f64 0, .string ⟨#[]⟩, .string ⟨#[]⟩, .slice none 0 0, .slice none 0 0] T fr)) :
    VlC W exV [.int .i64 6, .bool false, .int .i64 0, .float .f64 0, .string ⟨#[]⟩, .string ⟨#[]⟩, .slice none 0 0, .slice (some ⟨b, 0, none⟩) 3 3] := by
  unfold exV VlC
  refine ⟨none, 0, 0, some ⟨b, 0, none⟩, 3, 3, rfl, by unfold VlsAt; rfl, ?_, Nat.le_refl _, Nat.le_refl _, fun _ => rfl, (fun h => by cases h), by decide, rfl, Nat.zero_le _, Nat.zero_le _, Nat.zero_le _, by unfold maxLen; omega⟩
  unfold FlsAt
  refine ⟨b, 0, 2, _, rfl, rfl, by rw [Lib.cell_of_heap h]; rfl, by unfold maxLen; decide, row8_cut h 1, em_at W 5 (by decide), ?_⟩
  unfold FlsAt
  refine ⟨b, 9, 1, _, rfl, rfl, by rw [Lib.cell_of_heap h]; rfl, by unfold maxLen; decide, row8_cut h 10, em_at W 6 (by decide), ?_⟩
  unfold FlsAt
  refine ⟨b, 18, 0, _, rfl, rfl, by rw [Lib.cell_of_heap h]; rfl, by unfold maxLen; decide, row8_cut h 19, em_at W 0 (by decide), ?_⟩
  unfold FlsAt
  rfl
set_option maxHeartbeats 4000000 in
set_option maxRecDepth 100000 in
theorem example_ok (w : World) :
    Calls Tryz.prog 20 #[] w fun e w' => ∃ cs, e = .returned (.agg cs.toArray) ∧ VlC w' exV cs ∧ Below w.heap.size w w' := by
  have hsf := storeF
  go_enter Tryz.func20, Tryz.ntmps20
  go_wp2
  refine bodyPost_ret (v := .agg #[.int .i64 6, .bool false, .int .i64 0, .float .f64 0, .string ⟨#[]⟩, .string ⟨#[]⟩, .slice none 0 0, .slice (some ⟨w.heap.size + 1 + 1 + 1, 0, none⟩) 3 3]) (by simp [results, Tryz.results20, go_sem]) rfl ?_
  refine ⟨[.int .i64 6, .bool false, .int .i64 0, .float .f64 0, .string ⟨#[]⟩, .string ⟨#[]⟩, .slice none 0 0, .slice (some ⟨w.heap.size + 1 + 1 + 1, 0, none⟩) 3 3], rfl, ex_at (T := 45) (fr := (0, 0)) ?_, ((((Below.refl _ _).alloc (Nat.le_refl _) _).alloc (by simp) _).alloc (by simp; omega) _).alloc (by simp; omega) _⟩
  exact heap_alloc_at (by simp)
theorem tx_ex : txS ⟨#[97, 34, 92, 47, 8, 11]⟩ = ⟨#[34, 97, 92, 34, 92, 92, 47, 92, 98, 92, 117, 48, 48, 48, 98, 34]⟩ := by decide +kernel
theorem te_ex : txE ⟨#[97, 34, 92, 47, 8, 11]⟩ = 0 := by decide +kernel
theorem cells_z (l : List UInt8) : Lib.byteCells l = (zB l).map (Value.int .u8) := by simp [Lib.byteCells, zB]
theorem str_ex : strOfNums (zB [123, 34, 98, 34, 58, 91, 93, 44, 34, 97, 34, 58, 123, 125, 44, 34, 34, 58, 110, 117, 108, 108, 125]) = ⟨#[123, 34, 98, 34, 58, 91, 93, 44, 34, 97, 34, 58, 123, 125, 44, 34, 34, 58, 110, 117, 108, 108, 125]⟩ := by decide +kernel
set_option maxHeartbeats 4000000 in
set_option maxRecDepth 100000 in
theorem awake_ok (w : World) : Calls Tryz.prog 9 #[] w fun e w' => e = .returned (.bool true) ∧ Below w.heap.size w w' := by
  have hx := hide ex_js
  go_enter Tryz.func9, Tryz.ntmps9
  go_wp2_with fail
  refine (example_ok w).mono ?_
  rintro e w1 ⟨cs, rfl, hv, b1⟩
  have HV := hide hv
  clear hv
  go_wp2_with fail
  refine (write_ok N0 exV cs w1 (n0_ok _) (unhide HV) ex_ok (by rw [unhide hx]; decide)).mono ?_
  rintro e w2 ⟨r, rfl, ho, b2⟩
  rw [unhide hx] at ho
  have ho : w2.ownsRow w1.heap.size 5 1 r 23 (Lib.byteCells [123, 34, 98, 34, 58, 91, 93, 44, 34, 97, 34, 58, 123, 125, 44, 34, 34, 58, 110, 117, 108, 108, 125]) := ho
  have HO := hide ho
  have HB2 := hide (b1.trans (b2.mono b1.size))
  clear HV ho b1 b2
  go_wp2_with fail
  refine (text_any ⟨#[97, 34, 92, 47, 8, 11]⟩ w2 (by decide)).mono ?_
  rw [tx_ex, te_ex]
  rintro e w3 ⟨rfl, b3⟩
  have HO3 := hide (own_below (unhide HO) b3)
  have HB3 := hide ((unhide HB2).trans (b3.mono (unhide HB2).size))
  clear HO HB2 b3
  go_wp2_with fail
  refine (example_ok w3).mono ?_
  rintro e w4 ⟨cs2, rfl, hv2, b4⟩
  have HV2 := hide hv2
  have HO4 := hide (own_below (unhide HO3) b4)
  have HB4 := hide ((unhide HB3).trans (b4.mono (unhide HB3).size))
  clear hv2 HO3 HB3 b4
  go_wp2_with fail
  refine (size_ok N0 exV cs2 w4 (n0_ok _) (unhide HV2) ex_ok (by rw [unhide hx]; decide)).mono ?_
  rw [unhide hx]
  rintro e w5 ⟨rfl, b5⟩
  have ho5 := own_below (unhide HO4) b5
  have HB5 := hide ((unhide HB4).trans (b5.mono (unhide HB4).size))
  rw [cells_z] at ho5
  obtain ⟨a, c, rfl, hr⟩ := own_row ho5
  have hconv := row_string (P := Tryz.prog) hr 34 9 5 Tryz.underlying34 Tryz.underlying5 Tryz.underlying9
  rw [str_ex] at hconv
  clear HV2 HO4 HB4 b5 ho5 hr
  go_wp2_with fail
  go_ret
  exact ⟨rfl, unhide HB5⟩
end Go.Proofs.YtechaplindbfoaaGreatDoor.jsn
namespace Go.Proofs.YtechaplindbfoaaGreatDoor.mem
open Go.ChangeShapes Go.WideShapes Go.ChangeAt Go.RowKit
set_option linter.unusedVariables false
theorem flat_byt : ∀ (zs : List Int), zs.all scB = true → Byt (zs.flatMap putB)
  | [], _ => by intro z hz; simp at hz
  | c :: zs, h => by
    simp only [List.all_cons, Bool.and_eq_true] at h
    intro z hz
    rw [List.flatMap_cons] at hz
    rcases List.mem_append.1 hz with h1 | h1
    · exact putB_byt ((scB_iff c).1 h.1) z h1
    · exact flat_byt zs h.2 z h1
/-- What is written and something behind it, read. -/
theorem decF_app : ∀ (zs : List Int) (f : Nat) (r : List Int), zs.all scB = true → decF (zs.length + f) (zs.flatMap putB ++ r) = (zs ++ (decF f r).1, (zs.flatMap putB).length + (decF f r).2)
  | [], f, r, _ => by simp
  | c :: zs, f, r, h => by
    simp only [List.all_cons, Bool.and_eq_true] at h
    have hc := (scB_iff c).1 h.1
    have hpl := putB_len c
    rw [List.flatMap_cons, List.append_assoc]
    have e : (c :: zs).length + f = (zs.length + f) + 1 := by simp; omega
    have ho := one_put c hc (zs.flatMap putB ++ r)
    rw [e, decF_go _ _ (by rw [ho]; simp only; omega), ho]
    simp only
    rw [List.drop_left' rfl, decF_app zs f r h.2]
    simp [Nat.add_assoc]
theorem decF_fuel : ∀ (f g : Nat) (l : List Int), l.length ≤ f → l.length ≤ g → decF f l = decF g l
  | 0, g, l, hf, _ => by
    have : l = [] := List.eq_nil_of_length_eq_zero (by omega)
    subst this
    rw [decF_end g _ rfl]
    rfl
  | f + 1, 0, l, _, hg => by
    have : l = [] := List.eq_nil_of_length_eq_zero (by omega)
    subst this
    rw [decF_end (f + 1) _ rfl]
    rfl
  | f + 1, g + 1, l, hf, hg => by
    by_cases h : (oneL l).2 = 0
    · rw [decF_end _ _ h, decF_end _ _ h]
    · rw [decF_go _ _ h, decF_go _ _ h, decF_fuel f g (l.drop (oneL l).2) (by simp; omega) (by simp; omega)]
theorem decZ_app (zs r : List Int) (h : zs.all scB = true) : decZ (zs.flatMap putB ++ r) = (zs ++ (decZ r).1, (zs.flatMap putB).length + (decZ r).2) := by
  unfold decZ
  have hge := flat_ge zs
  rw [decF_fuel _ (zs.length + (zs.flatMap putB ++ r).length) _ (Nat.le_refl _) (by omega), decF_app zs _ r h]
  rw [decF_fuel (zs.flatMap putB ++ r).length r.length r (by simp) (Nat.le_refl _)]
theorem decZ_flat (zs : List Int) (h : zs.all scB = true) : decZ (zs.flatMap putB) = (zs, (zs.flatMap putB).length) := by
  have := decZ_app zs [] h
  simpa [decZ, decF] using this
end Go.Proofs.YtechaplindbfoaaGreatDoor.mem
namespace Go.Proofs.YtechaplindbfoaaGreatDoor.jsn
open Go.ChangeShapes Go.WideShapes Go.ChangeAt Go.RowKit
open mem Go.Maps
open vl hiding hide unhide Hid
open ints (hide unhide)
set_option linter.unusedVariables false
theorem cln_flat (s : ByteArray) (h : cln s = true) : ∃ zs : List Int, zs.all scB = true ∧ bytesZ s = zs.flatMap putB ∧ zs = (decZ (bytesZ s)).1 := by
  have h1 : (decZ (bytesZ s)).2 = s.size := by
    unfold cln at h
    have : (((decZ (bytesZ s)).2 : Nat) : Int) = (s.size : Int) := by simpa using h
    omega
  obtain ⟨i1, _, i3, _⟩ := decF_flat (bytesZ s).length (bytesZ s) (bytesZ_byt s)
  refine ⟨(decZ (bytesZ s)).1, i3, ?_, rfl⟩
  have : (decF (bytesZ s).length (bytesZ s)).2 = (bytesZ s).length := by rw [bytesZ_len]; rw [bytesZ_len] at *; exact (by unfold decZ at h1; rw [bytesZ_len] at h1; exact h1)
  rw [this, List.take_length] at i1
  exact i1.symm
theorem bytesZ_app (a b : ByteArray) : bytesZ (a ++ b) = bytesZ a ++ bytesZ b := by simp [bytesZ]
theorem cln_of_flat (s : ByteArray) (zs : List Int) (h : zs.all scB = true) (hs : bytesZ s = zs.flatMap putB) : cln s = true := by
  unfold cln
  rw [hs, decZ_flat zs h, ← hs, bytesZ_len]
  simp
theorem cln_app (a b : ByteArray) (ha : cln a = true) (hb : cln b = true) : cln (a ++ b) = true := by
  obtain ⟨xs, h1, h2, -⟩ := cln_flat a ha
  obtain ⟨ys, h3, h4, -⟩ := cln_flat b hb
  refine cln_of_flat _ (xs ++ ys) (by simp [List.all_append, h1, h3]) ?_
  rw [bytesZ_app, h2, h4, List.flatMap_append]
theorem txS_yes {s : ByteArray} (h : cln s = true) : txS s = ⟨(txt s.data.toList).toArray⟩ := if_pos h
theorem txS_no {s : ByteArray} (h : cln s = false) : txS s = ⟨#[]⟩ := if_neg (by rw [h]; simp)
theorem txE_yes {s : ByteArray} (h : cln s = true) : txE s = 0 := if_pos h
theorem txE_no {s : ByteArray} (h : cln s = false) : txE s = 1 := if_neg (by rw [h]; simp)
theorem app_list (a b : ByteArray) : (a ++ b).data.toList = a.data.toList ++ b.data.toList := by simp
theorem app_size (a b : ByteArray) : (a ++ b).size = a.size + b.size := by rw [← size_list, app_list, List.length_append, size_list, size_list]
/-- the two texts, spliced -/
theorem txt_splice (a b : ByteArray) : (⟨(txt (a ++ b).data.toList).toArray⟩ : ByteArray) = (⟨(txt a.data.toList).toArray⟩ : ByteArray).extract 0 ((⟨(txt a.data.toList).toArray⟩ : ByteArray).size - 1) ++ (⟨(txt b.data.toList).toArray⟩ : ByteArray).extract 1 (⟨(txt b.data.toList).toArray⟩ : ByteArray).size := by
  have ext : ∀ x y : ByteArray, x.data.toList = y.data.toList → x = y := by
    intro x y h
    cases x; cases y
    simp at h
    rw [h]
  apply ext
  rw [app_list, app_list, extract_list, extract_list, str_list, str_list, str_list, str_size, str_size, txt_len, txt_len]
  unfold txt
  rw [body_app]
  simp [List.take_append]
  rw [List.take_of_length_le (by omega)]
end Go.Proofs.YtechaplindbfoaaGreatDoor.jsn
