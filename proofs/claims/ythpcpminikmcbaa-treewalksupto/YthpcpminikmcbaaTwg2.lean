import Derived.Test.YthpcpminikmcbaaTwg1
import Derived.Test.YthpcpminikmcbaaRows
import GoSem.Core.Float
import Derived.Laws.Cover2
import Derived.Laws.FloatArith
import Derived.WalkKit
import Derived.ProofKit
import Derived.OpenShut
import Derived.ShutString
import Derived.Below
import Derived.Outline
import Derived.Laws.Pointers
import Derived.Lib.Bytealg
import Derived.Laws.Externs
import Derived.Laws.Rows
import Derived.Laws.StructEq
import Derived.Deep.RegionHeld3
import Derived.RegionCalls
import Derived.Deep.RegionLaw
namespace Go.Proofs.Ythpcpminikmcbaa.vl
open Go.ChangeShapes Go.WideShapes Go.ChangeAt Go.RowKit
set_option linter.unusedVariables false
set_option linter.unusedSimpArgs false
theorem keepC {w w' : World} {b o : Nat} {u : Value} (h : Below w.heap.size w w') (hl : b < w.heap.size) (hc : w.cell? ⟨b, o, none⟩ = some u) : w'.cell? ⟨b, o, none⟩ = some u := (h.cell (p := ⟨b, o, none⟩) hl).trans hc
theorem mixed : Try.prog.follows .mixedOrders = true := by kernel_rfl
theorem one9 {w : World} {v : Vl} {cs : List Value} (nm : ByteArray) (h : VlC w v cs) : (Value.string nm :: cs).toArray.all (·.oneCell') = true := by
  cases v
  unfold VlC at h
  obtain ⟨_, _, _, _, _, _, rfl, _⟩ := h
  simp [Value.oneCell']
set_option maxHeartbeats 6000000 in
set_option maxRecDepth 6000 in
theorem copyM_ok (nm : ByteArray) (v : Vl) (hc : CopyAt v) (cs : List Value) (w : World) (hv : VlC w v cs) : Calls Try.prog 60 #[.agg (Value.string nm :: cs).toArray] w fun e w' => ∃ (ds : List Value) (F : List Nat), e = .returned (.agg (Value.string nm :: ds).toArray) ∧ OwC w' v ds F ∧ F.Nodup ∧ (∀ b ∈ F, w.heap.size ≤ b ∧ b < w'.heap.size) ∧ Below w.heap.size w w' ∧ Fz w' F := by
  have H := hide (hc cs)
  have hv' := hide hv
  have h8 := hv.cells
  have h1 := one9 nm hv
  have i9 : (Try.prog.info? 69).map (·.size) = some (Value.string nm :: cs).toArray.size := by simp [h8, infoM]
  have HH := hide (And.intro h8 i9)
  clear hc h8 i9 hv
  go_enter Try.func60, Try.ntmps60
  go_wp2_with (first
    | refine wpList_store_mid (by rfl) 69 _ _ (by rfl) w.heap.size 0 (Value.string nm :: cs).toArray (by rfl) (by rfl) (there_new (by simp [(unhide HH).1])) (unhide HH).2 h1 ?_)
  obtain ⟨W, eW⟩ : ∃ W, W = ((w.alloc (.cells (Value.string nm :: cs).toArray 69)).alloc (.cells #[.string { data := #[] }, .int .i64 0, .bool false, .int .i64 0, .float .f64 0, .string { data := #[] }, .string { data := #[] }, .slice none 0 0, .slice none 0 0] 69)) := ⟨_, rfl⟩
  have bW : Below w.heap.size w W := by rw [eW]; exact ((Below.refl _ _).alloc (Nat.le_refl _) _).alloc (by simp) _
  have hsz : W.heap.size = w.heap.size + 2 := by rw [eW]; simp
  have hcell : ∀ j u, (Value.string nm :: cs)[j]? = some u → W.cell? ⟨w.heap.size, j, none⟩ = some u := fun j u hu => by
    rw [eW, World.cell?_alloc_past _ _ _ (by simp), World.cell?_alloc_at _ _ _ _ rfl]; simpa using hu
  have x0 := hcell 0 _ rfl
  have hrow : W.rangeAt w.heap.size 1 cs := fun j u hu => by
    rw [Nat.add_comm]; exact hcell (j + 1) u (by simpa using hu)
  have hth : W.there (w.heap.size + 1) 0 9 := by
    rw [eW]
    have h := there_new (w := w.alloc (.cells (Value.string nm :: cs).toArray 69)) (Z := #[.string { data := #[] }, .int .i64 0, .bool false, .int .i64 0, .float .f64 0, .string { data := #[] }, .string { data := #[] }, .slice none 0 0, .slice none 0 0]) (t := 69) (n := 9) rfl
    simpa using h
  rw [← eW]
  clear eW hcell
  have hS0 : Below (w.heap.size + 1) W { W with drawn := W.drawn + 1 } := (Below.refl _ _).drew
  have hi8 : (Try.prog.info? 27).map (·.size) = some cs.length := by rw [(unhide HH).1]; exact infoV
  refine wp_region_noPanic ?_
  refine wp_region_held (S := fun w' => Below (w.heap.size + 1) W w') mixed ?_
  refine rgn.take (i := 0) _ (.pointer (some ⟨w.heap.size, 0, none⟩)) rfl (by kernel_rfl) (by kernel_rfl) (by kernel_rfl) (fun _ _ _ h => h) (by rfl) hS0 (fun w' hw' => by go_simp) ?_
  simp only [List.getElem_toArray, List.getElem_cons_zero, List.getElem_cons_succ, Act.put, List.setIfInBounds_toArray, List.set_cons_zero, List.set_cons_succ]
  refine rgn.take (i := 1) _ (.string nm) rfl (by kernel_rfl) (by kernel_rfl) (by kernel_rfl) (fun _ _ _ h => h) (by rfl) hS0 (fun w' hw' => by
    have y0 : w'.cell? ⟨w.heap.size, 0, none⟩ = some (.string nm) := (hw'.cell (p := ⟨w.heap.size, 0, none⟩) (Nat.lt_succ_self _)).trans x0
    clear x0
    go_simp) ?_
  simp only [List.getElem_toArray, List.getElem_cons_zero, List.getElem_cons_succ, Act.put, List.setIfInBounds_toArray, List.set_cons_zero, List.set_cons_succ]
  refine rgn.take (i := 2) _ (.pointer (some ⟨w.heap.size, 1, none⟩)) rfl (by kernel_rfl) (by kernel_rfl) (by kernel_rfl) (fun _ _ _ h => h) (by rfl) hS0 (fun w' hw' => by go_simp) ?_
  simp only [List.getElem_toArray, List.getElem_cons_zero, List.getElem_cons_succ, Act.put, List.setIfInBounds_toArray, List.set_cons_zero, List.set_cons_succ]
  refine wpAnyH_take (i := 3) rfl (by kernel_rfl) (by kernel_rfl) (by kernel_rfl) (fun _ _ _ h => h) (yieldsIf_load_mid (by rfl) 27 _ (by rfl) w.heap.size 1 (by rfl) cs _ (fun w' hw' j u hu => (hw'.cell (p := ⟨w.heap.size, 1 + j, none⟩) (Nat.lt_succ_self _)).trans (hrow j u hu)) Try.underlying27 (by rfl) hi8) hS0 ?_
  simp only [List.getElem_toArray, List.getElem_cons_zero, List.getElem_cons_succ, Act.put, List.setIfInBounds_toArray, List.set_cons_zero, List.set_cons_succ]
  refine rgn.one (i := 4) _ rfl (by kernel_rfl) (by rfl) ?_
  simp only [List.getElem_toArray, List.getElem_cons_zero, List.getElem_cons_succ, Act.put, List.setIfInBounds_toArray, List.set_cons_zero, List.set_cons_succ]
  go_wp2_with fail
  refine ((unhide H) _ (VlC.below bW.drew _ _ (unhide hv'))).mono ?_
  rintro e w3 ⟨ds, F, rfl, hO3, hnd3, hF3, b3, z3⟩
  have b4 : Below W.heap.size W w3 := (Below.refl _ _).drew.trans b3
  have hS3 : Below (w.heap.size + 1) W w3 := b4.mono (by omega)
  have d8 := (OwC.read v ds F hO3).cells
  have d1 := one9 nm (OwC.read v ds F hO3)
  have hT3 : w3.there (w.heap.size + 1) 0 (Value.string nm :: ds).toArray.size := by
    have := there_below hth b4 (by omega)
    simpa [d8] using this
  have i9 : (Try.prog.info? 69).map (·.size) = some (Value.string nm :: ds).toArray.size := by simp [d8, infoM]
  refine ⟨hS3, ?_⟩
  refine rgn.take (i := 5) _ (.agg (Value.string nm :: ds).toArray) rfl (by kernel_rfl) (by kernel_rfl) (by kernel_rfl) (fun _ _ _ h => h) (by rfl) hS3 (fun w' hw' => by
    have hO4 := hO3
    clear hO3 d8 d1 hT3 i9
    obtain ⟨kd, bb, ni, f, tx, ty, its, fls⟩ := v
    unfold OwC at hO4
    obtain ⟨ai, nI, ci, af, nf, cf, Fi, Ff, rfl, -⟩ := hO4
    go_simp) ?_
  simp only [List.getElem_toArray, List.getElem_cons_zero, List.getElem_cons_succ, Act.put, List.setIfInBounds_toArray, List.set_cons_zero, List.set_cons_succ]
  refine rgn.one (i := 6) _ rfl (by kernel_rfl) (by rfl) ?_
  simp only [List.getElem_toArray, List.getElem_cons_zero, List.getElem_cons_succ, Act.put, List.setIfInBounds_toArray, List.set_cons_zero, List.set_cons_succ]
  refine wp_store_mid 69 _ _ (by rfl) (w.heap.size + 1) 0 (Value.string nm :: ds).toArray (by rfl) (by rfl) hT3 i9 d1 ?_
  refine ⟨below_setCells _ _ _ _ hS3 (Nat.le_refl _), ?_⟩
  refine wpAnyH_done (by kernel_rfl) ?_ _
  simp only [List.getElem_toArray, List.getElem_cons_zero, List.getElem_cons_succ, Act.put, List.setIfInBounds_toArray, List.set_cons_zero, List.set_cons_succ]
  refine NoPanic.normal ?_
  obtain ⟨W4, e4⟩ : ∃ W4, W4 = w3.setCells (w.heap.size + 1) 0 (Value.string nm :: ds) := ⟨_, rfl⟩
  rw [← e4]
  go_wp2_with fail
  have bW4 : Below (w.heap.size + 1) W W4 := by rw [e4]; exact below_setCells _ _ _ _ hS3 (Nat.le_refl _)
  have hr4 : W4.rangeAt (w.heap.size + 1) 0 (Value.string nm :: ds) := by rw [e4]; exact World.rangeAt_setCells_same _ _ _ _ (by simpa using hT3)
  have hs4 : W4.heap.size = w3.heap.size := by rw [e4]; exact size_setCells _ _ _ _
  have hnF : w.heap.size + 1 ∉ F := fun h => by have := (hF3 _ h).1; simp at this; omega
  have hO4 : OwC W4 v ds F := by rw [e4]; exact OwC.agree v ds F (agree_setCells w3 hnF) hO3
  refine bodyPost_ret (rgn.result_row rfl _ _ (w.heap.size + 1) 0 (Value.string nm :: ds) _ rfl hr4 Try.underlying69 rfl (by simpa using i9)) rfl ?_
  refine ⟨ds, F, rfl, hO4, hnd3, fun b hb => ?_, ?_, by rw [e4]; exact z3.setCells _ _ _⟩
  · have := hF3 b hb
    simp at this
    omega
  · exact bW.trans (bW4.mono (Nat.le_succ _))
end Go.Proofs.Ythpcpminikmcbaa.vl
namespace Go.Proofs.Ythpcpminikmcbaa.vl
open Go.ChangeShapes Go.WideShapes Go.ChangeAt Go.RowKit
set_option linter.unusedVariables false
theorem makeM (n : Nat) (w : World) (hn : n ≤ 1099511627776) : ∃ Z : Array Value, Z.size = n * 9 ∧ (Instr.makeSlice 25 (.int .i64 n) (.int .i64 n)).run Try.prog w = .ok (.slice (some ⟨w.heap.size, 0, none⟩) n n) (w.alloc (.cells Z 69)) := by
  have hin : (Try.prog.info? 69).map (fun i => (i.bytes, i.size, i.zero.isSome)) = some (128, 9, true) := by kernel_rfl
  cases hq : Try.prog.info? 69 with
  | none => simp [hq] at hin
  | some i =>
    simp [hq] at hin
    obtain ⟨h1, h2, h3⟩ := hin
    obtain ⟨z, hz⟩ := Option.isSome_iff_exists.1 h3
    have := run_make (P := Try.prog) w 25 69 i z Try.underlying25 hq hz .i64 .i64 n n (by omega) (Int.le_refl _) (by rw [h1]; omega) (by omega)
    simp only [Int.toNat_natCast, h2] at this
    exact ⟨_, size_madeCells _ _, this⟩
theorem row9 {w : World} {b o : Nat} {nm : ByteArray} {cs : List Value} (h : Row8 w b (o + 1) cs) (h0 : w.cell? ⟨b, o, none⟩ = some (.string nm)) : w.rangeAt b o (Value.string nm :: cs) := fun j u hu => by
  cases j with
  | zero => simp at hu; rw [← hu]; exact h0
  | succ j => rw [show o + (j + 1) = o + 1 + j by omega]; exact h j u (by simpa using hu)
set_option maxHeartbeats 6000000 in
set_option maxRecDepth 6000 in
theorem eachM_ok (fls : Fls) (ih : ∀ q ∈ fls.list, CopyAt q.2) (a : Addr) (n c : Nat) (w : World) (hI : FlsAt w fls (some a) n) (hn : n ≤ 1099511627776) : Calls Try.prog 59 #[.slice (some a) n c, .func (.func 60) #[] #[]] w fun e w' => ∃ (p : Nat) (G : List Nat), e = .returned (.slice (some ⟨p, 0, none⟩) n n) ∧ OwfIn w' fls p 0 n G ∧ (p :: G).Nodup ∧ (∀ b ∈ p :: G, w.heap.size ≤ b ∧ b < w'.heap.size) ∧ Below w.heap.size w w' ∧ Fz w' (p :: G) := by
  have en : ∀ args w, (callFunc 60 args).run Try.prog w = .ok (.enter 60 args) w := fun _ _ => rfl
  have hnil : ∀ (w : World) (a : Option Addr) (n c n' c' : Nat), (binOp .eql 25 (.slice a n c) (.slice none n' c')).run Try.prog w = .ok (.bool a.isNone) w := fun w a n c n' c' => Lib.run_eql_slice_nil w _ _ a n c n' c' Try.underlying25
  have hlen := FlsAt.len fls _ _ hI
  obtain ⟨Z, hZ, hmk⟩ := makeM n w hn
  have hL := hide hlen
  have hZ' := hide hZ
  clear hlen hZ
  go_enter Try.func59, Try.ntmps59
  go_wp2_with fail
  clear hmk
  go_loopw [15] (fun vi wr => ∃ (k : Nat) (G : List Nat), k ≤ n ∧ vi = .int .i64 k ∧ Hid (OwfIn wr (Fls.of (fls.list.take k)) w.heap.size 0 k G) ∧ G.Nodup ∧ (∀ b ∈ G, w.heap.size < b ∧ b < wr.heap.size) ∧ Hid (wr.there w.heap.size 0 (n * 9)) ∧ Below w.heap.size w wr ∧ w.heap.size < wr.heap.size ∧ Hid (Fz wr (w.heap.size :: G))) (fun vi _ => n - (intOf vi).toNat)
  case atStart => exact ⟨0, [], Nat.zero_le _, rfl, hide (by simp only [List.take_zero, Fls.of]; unfold OwfIn; exact ⟨rfl, rfl⟩), List.nodup_nil, by simp, hide (there_new (unhide hZ')), (Below.refl _ _).alloc (Nat.le_refl _) _, by simp, hide Fz.new⟩
  case round =>
    obtain ⟨k, G, hk, rfl, hO, hnd, hG, hT, hB, hs, hZ3⟩ := hrel
    by_cases hlt : k < n
    · obtain ⟨b, off, nm, v, cs, hab, hg, hn0, hnz, hr, hv⟩ := FlsAt.get fls _ n hI k hlt
      obtain rfl : a = ⟨b, off, none⟩ := Option.some.inj hab
      clear hab
      have hcop := hide (copyM_ok nm v (ih (nm, v) (List.mem_of_getElem? hg)) cs)
      have hr' : wr.rangeAt b (off + k * 9) (Value.string nm :: cs) := row9 (Row8.below hr hB) (keepC hB (World.block_lt_of_cell? w _ hn0) hn0)
      have h8 := hv.cells
      have h1 := one9 nm hv
      have hi8 : (Try.prog.info? 69).map (·.size) = some (Value.string nm :: cs).length := by rw [List.length_cons, h8]; exact infoM
      have hi8' : (Try.prog.info? 69).map (·.size) = some (Value.string nm :: cs).toArray.size := by simp [h8, infoM]
      have hz8 : (Value.string nm :: cs).toArray.size = 9 := by simp [h8]
      have ki : (k : Int) < (n : Int) := by omega
      have HH := hide (And.intro hi8 (And.intro hi8' (And.intro hz8 h8)))
      have h9 : (Value.string nm :: cs).length = 9 := by simp [h8]
      have HH := hide (And.intro (unhide HH).1 (And.intro (unhide HH).2.1 (And.intro (unhide HH).2.2.1 h9)))
      clear hr hi8 hi8' hz8 h8 h9
      go_wp2_with (first
        | refine wpList_load_mid (by rfl) 69 _ (by rfl) b (off + k * 9) (by rfl) (Value.string nm :: cs) _ hr' Try.underlying69 (by rfl) (unhide HH).1 ?_
        | refine wpList_store_mid (by rfl) 69 _ _ (by rfl) wr.heap.size 0 (Value.string nm :: cs).toArray (by rfl) (by rfl) (there_new (by rw [(unhide HH).2.2.1]; rfl)) (unhide HH).2.1 h1 ?_
        | refine wpList_load_mid (by rfl) 69 _ (by rfl) wr.heap.size 0 (by rfl) (Value.string nm :: cs) _ (World.rangeAt_setCells_same _ _ _ _ (there_new (by show _ = (Value.string nm :: cs).length; rw [(unhide HH).2.2.2]; rfl))) Try.underlying69 (by rfl) (unhide HH).1 ?_)
      obtain ⟨W2, e2⟩ : ∃ W2, W2 = ((wr.alloc (.cells #[Value.string { data := #[] }, Value.int IntKind.i64 0, Value.bool false, Value.int IntKind.i64 0, Value.float FloatKind.f64 0, Value.string { data := #[] }, Value.string { data := #[] }, Value.slice none 0 0, Value.slice none 0 0] 69)).setCells wr.heap.size 0 (Value.string nm :: cs)) := ⟨_, rfl⟩
      have b2 : Below wr.heap.size wr W2 := by rw [e2]; exact below_setCells _ _ _ _ ((Below.refl _ _).alloc (Nat.le_refl _) _) (Nat.le_refl _)
      rw [← e2]
      clear e2
      have hv2 : VlC W2 v cs := VlC.below (hB.trans (b2.mono hB.size)) v cs hv
      refine ((unhide hcop) W2 hv2).mono ?_
      rintro e w3 ⟨ds, F, rfl, hO3, hnd3, hF3, b3, z3⟩
      have Z3 := hide z3
      clear z3
      have d8 := (OwC.read v ds F hO3).cells
      have d1 := one9 nm (OwC.read v ds F hO3)
      have b23 : Below wr.heap.size wr w3 := b2.trans (b3.mono b2.size)
      have hT3 : w3.there w.heap.size (k * 9) (Value.string nm :: ds).toArray.size := there_sub (there_below (unhide hT) b23 hs) (Nat.zero_le _) (by simp [d8]; omega)
      have hi8 : (Try.prog.info? 69).map (·.size) = some (Value.string nm :: ds).toArray.size := by simp [d8, infoM]
      have D8 := hide d8
      have HI := hide hi8
      have HT := hide hT3
      have HO3 := hide hO3
      clear hO3 hT3 hi8 d8 hcop HH hr' hv2
      go_wp2_with (first
        | refine wpList_store_mid (by rfl) 69 _ _ (by rfl) w.heap.size (k * 9) (Value.string nm :: ds).toArray (by rfl) (by rfl) (unhide HT) (unhide HI) d1 ?_)
      have hfresh : ∀ b' ∈ F, wr.heap.size ≤ b' ∧ b' < w3.heap.size := fun b' hb' => ⟨Nat.le_trans b2.size (hF3 b' hb').1, (hF3 b' hb').2⟩
      have hpG : w.heap.size ∉ G := fun h => absurd (hG _ h).1 (Nat.lt_irrefl _)
      have hpF : w.heap.size ∉ F := fun h => absurd (hfresh _ h).1 (by omega)
      have hag : Agree G wr w3 := Agree.of_below b23 (fun b' hb' => (hG b' hb').2)
      have hO4 : OwfIn (w3.setCells w.heap.size (k * 9) (Value.string nm :: ds)) (Fls.of (fls.list.take k)) w.heap.size 0 k G :=
        OwfIn.keep _ _ _ _ _ (hag.trans (agree_setCells w3 hpG)) (fun o ho => by
          rw [World.cell?_setCells_out _ _ _ _ _ (fun _ _ => .inl (by show o < k * 9; omega))]
          exact b23.cell (p := ⟨w.heap.size, o, none⟩) hs) (unhide hO)
      have hrow9 : (w3.setCells w.heap.size (k * 9) (Value.string nm :: ds)).rangeAt w.heap.size (0 + k * 9) (Value.string nm :: ds) := by
        rw [Nat.zero_add]
        exact World.rangeAt_setCells_same w3 _ _ _ (by have := unhide HT; simpa using this)
      have hrow : Row8 (w3.setCells w.heap.size (k * 9) (Value.string nm :: ds)) w.heap.size (0 + k * 9 + 1) ds := fun j u hu => by
        rw [show 0 + k * 9 + 1 + j = 0 + k * 9 + (j + 1) by omega]
        exact hrow9 (j + 1) u (by simpa using hu)
      have hown : OwC (w3.setCells w.heap.size (k * 9) (Value.string nm :: ds)) v ds F := OwC.agree v ds F (agree_setCells w3 hpF) (unhide HO3)
      have hsn := OwfIn.snoc (fls.list.take k) _ _ _ _ hO4 (hrow9 0 _ rfl) hnz hrow hown
      rw [show fls.list.take k ++ [(nm, v)] = fls.list.take (k + 1) by rw [List.take_add_one, hg]; rfl] at hsn
      refine ⟨⟨k + 1, G ++ F, by omega, by go_num, hide hsn, ?_, ?_, hide (World.there_setCells (there_below (unhide hT) b23 hs) _ _ _), below_setCells _ _ _ _ (hB.trans (b23.mono hB.size)) (Nat.le_refl _), by rw [size_setCells]; exact Nat.lt_of_lt_of_le hs b23.size, hide (Fz.setCells (Fz.app (F := w.heap.size :: G) ((unhide hZ3).below b23 (fun b' hb' => by
        rcases List.mem_cons.1 hb' with h | h
        · rw [h]; exact hs
        · exact (hG b' h).2)) (unhide Z3)) _ _ _)⟩, by simp only [intOf]; omega⟩
      · rw [List.nodup_append]
        exact ⟨hnd, hnd3, fun x hx y hy e => by have h1 := (hG x hx).2; have h2 := (hfresh y hy).1; omega⟩
      · intro b' hb'
        rw [size_setCells]
        rcases List.mem_append.1 hb' with h | h
        · exact ⟨(hG b' h).1, Nat.lt_of_lt_of_le (hG b' h).2 b23.size⟩
        · exact ⟨Nat.lt_of_lt_of_le hs (hfresh b' h).1, (hfresh b' h).2⟩
    · obtain rfl : k = n := by omega
      go_wp2
      go_ret
      refine ⟨_, G, rfl, ?_, List.nodup_cons.2 ⟨fun h => absurd (hG _ h).1 (Nat.lt_irrefl _), hnd⟩, ?_, hB, unhide hZ3⟩
      · have := unhide hO
        rwa [List.take_of_length_le (Nat.le_of_eq (unhide hL)), Fls.of_list] at this
      · intro b' hb'
        rcases List.mem_cons.1 hb' with rfl | h
        · exact ⟨Nat.le_refl _, hs⟩
        · exact ⟨Nat.le_of_lt (hG b' h).1, (hG b' h).2⟩
end Go.Proofs.Ythpcpminikmcbaa.vl
namespace Go.Proofs.Ythpcpminikmcbaa.vl
open Go.ChangeShapes Go.WideShapes Go.ChangeAt Go.RowKit
set_option linter.unusedVariables false
set_option linter.unusedSimpArgs false
mutual
/-- lists of bearable length, all the way down -/
def Small : Vl → Prop
  | .mk kd b n f tx ty its fls => its.list.length ≤ 1256584717458 ∧ fls.list.length ≤ 1099511627776 ∧ f < 18446744073709551616 ∧ SmallI its ∧ SmallF fls
def SmallI : Vls → Prop
  | .nil => True
  | .cons v r => Small v ∧ SmallI r
def SmallF : Fls → Prop
  | .nil => True
  | .cons nm v r => Small v ∧ SmallF r
end
theorem SmallI.all : ∀ {l : Vls}, SmallI l → ∀ v ∈ l.list, Small v
  | .nil, _, v, h => by simp [Vls.list] at h
  | .cons u r, hs, v, h => by
    unfold SmallI at hs
    simp only [Vls.list, List.mem_cons] at h
    rcases h with h | h
    · rw [h]; exact hs.1
    · exact hs.2.all v h
theorem SmallF.all : ∀ {l : Fls}, SmallF l → ∀ q ∈ l.list, Small q.2
  | .nil, _, q, h => by simp [Fls.list] at h
  | .cons nm u r, hs, q, h => by
    unfold SmallF at hs
    simp only [Fls.list, List.mem_cons] at h
    rcases h with h | h
    · rw [h]; exact hs.1
    · exact hs.2.all q h
theorem each_nil (c : Nat) (w : World) : Calls Try.prog 58 #[.slice none 0 c, .func (.func 35) #[] #[]] w fun e w' => e = .returned (.slice none 0 0) ∧ w' = w := by
  have hnil : ∀ (w : World) (a : Option Addr) (n c n' c' : Nat), (binOp .eql 24 (.slice a n c) (.slice none n' c')).run Try.prog w = .ok (.bool a.isNone) w := fun w a n c n' c' => Lib.run_eql_slice_nil w _ _ a n c n' c' Try.underlying24
  go_enter Try.func58, Try.ntmps58
  go_wp2
  go_ret
  exact ⟨rfl, rfl⟩
theorem eachM_nil (c : Nat) (w : World) : Calls Try.prog 59 #[.slice none 0 c, .func (.func 60) #[] #[]] w fun e w' => e = .returned (.slice none 0 0) ∧ w' = w := by
  have hnil : ∀ (w : World) (a : Option Addr) (n c n' c' : Nat), (binOp .eql 25 (.slice a n c) (.slice none n' c')).run Try.prog w = .ok (.bool a.isNone) w := fun w a n c n' c' => Lib.run_eql_slice_nil w _ _ a n c n' c' Try.underlying25
  go_enter Try.func59, Try.ntmps59
  go_wp2
  go_ret
  exact ⟨rfl, rfl⟩
theorem each_any (l : Vls) (ih : ∀ v ∈ l.list, CopyAt v) (a : Option Addr) (n c : Nat) (w : World) (hI : VlsAt w l a n) (hn : n ≤ 1256584717458) (hnc : n ≤ c) (ha : a = none → c = 0) : Calls Try.prog 58 #[.slice a n c, .func (.func 35) #[] #[]] w fun e w' => ∃ (aj : Option Addr) (cj : Nat) (F : List Nat), e = .returned (.slice aj n cj) ∧ ((aj = none ∧ l = .nil ∧ n = 0 ∧ F = []) ∨ ∃ p G, aj = some ⟨p, 0, none⟩ ∧ F = p :: G ∧ OwsIn w' l p 0 n G) ∧ F.Nodup ∧ (∀ b ∈ F, w.heap.size ≤ b ∧ b < w'.heap.size) ∧ Below w.heap.size w w' ∧ n ≤ cj ∧ (aj = none → cj = 0) ∧ cj ≤ maxLen ∧ Fz w' F := by
  cases a with
  | none =>
    obtain rfl : n = 0 := by have := ha rfl; omega
    obtain rfl : l = .nil := by
      cases l with
      | nil => rfl
      | cons => exact absurd (VlsAt.len _ _ _ hI) (by simp [Vls.list])
    refine (each_nil c w).mono ?_
    rintro e w' ⟨rfl, rfl⟩
    exact ⟨none, 0, [], rfl, .inl ⟨rfl, rfl, rfl, rfl⟩, List.nodup_nil, by simp, Below.refl _ _, Nat.le_refl _, fun _ => rfl, Nat.zero_le _, fun b hb => by simp at hb⟩
  | some a =>
    refine (each_ok l ih a n c w hI hn).mono ?_
    rintro e w' ⟨p, G, rfl, h1, h2, h3, h4, h5⟩
    exact ⟨_, n, p :: G, rfl, .inr ⟨p, G, rfl, rfl, h1⟩, h2, h3, h4, Nat.le_refl _, fun e => (by cases e), (by unfold maxLen; omega), h5⟩
theorem eachM_any (l : Fls) (ih : ∀ q ∈ l.list, CopyAt q.2) (a : Option Addr) (n c : Nat) (w : World) (hI : FlsAt w l a n) (hn : n ≤ 1099511627776) (hnc : n ≤ c) (ha : a = none → c = 0) : Calls Try.prog 59 #[.slice a n c, .func (.func 60) #[] #[]] w fun e w' => ∃ (aj : Option Addr) (cj : Nat) (F : List Nat), e = .returned (.slice aj n cj) ∧ ((aj = none ∧ l = .nil ∧ n = 0 ∧ F = []) ∨ ∃ p G, aj = some ⟨p, 0, none⟩ ∧ F = p :: G ∧ OwfIn w' l p 0 n G) ∧ F.Nodup ∧ (∀ b ∈ F, w.heap.size ≤ b ∧ b < w'.heap.size) ∧ Below w.heap.size w w' ∧ n ≤ cj ∧ (aj = none → cj = 0) ∧ cj ≤ maxLen ∧ Fz w' F := by
  cases a with
  | none =>
    obtain rfl : n = 0 := by have := ha rfl; omega
    obtain rfl : l = .nil := by
      cases l with
      | nil => rfl
      | cons => exact absurd (FlsAt.len _ _ _ hI) (by simp [Fls.list])
    refine (eachM_nil c w).mono ?_
    rintro e w' ⟨rfl, rfl⟩
    exact ⟨none, 0, [], rfl, .inl ⟨rfl, rfl, rfl, rfl⟩, List.nodup_nil, by simp, Below.refl _ _, Nat.le_refl _, fun _ => rfl, Nat.zero_le _, fun b hb => by simp at hb⟩
  | some a =>
    refine (eachM_ok l ih a n c w hI hn).mono ?_
    rintro e w' ⟨p, G, rfl, h1, h2, h3, h4, h5⟩
    exact ⟨_, n, p :: G, rfl, .inr ⟨p, G, rfl, rfl, h1⟩, h2, h3, h4, Nat.le_refl _, fun e => (by cases e), (by unfold maxLen; omega), h5⟩
set_option maxHeartbeats 6000000 in
set_option maxRecDepth 6000 in
theorem copy_ok : ∀ v : Vl, Small v → CopyAt v := by
  refine Vl.all ?_
  intro kd bb ni f tx ty its fls ihI ihF hsm cs w hv
  unfold Small at hsm
  obtain ⟨hl1, hl2, -, hsI, hsF⟩ := hsm
  unfold VlC at hv
  obtain ⟨ai, nI, ci, af, nf, cf, rfl, hI, hF, hni, hnf, hai, haf, hk1, hk2, hk3, hk4, hci, hcf⟩ := hv
  have hmf : ∀ (fn : Fn) (first cap : Array Value) (w : World), (Instr.makeFunc fn first cap).run Try.prog w = .ok (.func fn first cap) w := fun _ _ _ _ => rfl
  go_enter Try.func35, Try.ntmps35
  go_wp2_with fail
  obtain ⟨W, eW⟩ : ∃ W, W = ((w.alloc (.cells #[.int .i64 kd, .bool bb, .int .i64 ni, .float .f64 f, .string tx, .string ty, .slice ai nI ci, .slice af nf cf] 27)).alloc (.cells #[.int .i64 0, .bool false, .int .i64 0, .float .f64 0, .string { data := #[] }, .string { data := #[] }, .slice none 0 0, .slice none 0 0] 27)) := ⟨_, rfl⟩
  have bW : Below w.heap.size w W := by rw [eW]; exact ((Below.refl _ _).alloc (Nat.le_refl _) _).alloc (by simp) _
  have hsz : W.heap.size = w.heap.size + 2 := by rw [eW]; simp
  have x0 : W.cell? ⟨w.heap.size, 0, none⟩ = some (.int .i64 kd) := by rw [eW]; simp
  have x1 : W.cell? ⟨w.heap.size, 1, none⟩ = some (.bool bb) := by rw [eW]; simp
  have x2 : W.cell? ⟨w.heap.size, 2, none⟩ = some (.int .i64 ni) := by rw [eW]; simp
  have x3 : W.cell? ⟨w.heap.size, 3, none⟩ = some (.float .f64 f) := by rw [eW]; simp
  have x4 : W.cell? ⟨w.heap.size, 4, none⟩ = some (.string tx) := by rw [eW]; simp
  have x5 : W.cell? ⟨w.heap.size, 5, none⟩ = some (.string ty) := by rw [eW]; simp
  have x6 : W.cell? ⟨w.heap.size, 6, none⟩ = some (.slice ai nI ci) := by rw [eW]; simp
  have x7 : W.cell? ⟨w.heap.size, 7, none⟩ = some (.slice af nf cf) := by rw [eW]; simp
  have xf : ∀ j, W.frozen? ⟨w.heap.size, j, none⟩ = false := by intro j; rw [eW]; simp
  have hth : W.there (w.heap.size + 1) 0 8 := by
    rw [eW]
    have h := there_new (w := w.alloc (.cells #[.int .i64 kd, .bool bb, .int .i64 ni, .float .f64 f, .string tx, .string ty, .slice ai nI ci, .slice af nf cf] 27)) (Z := #[.int .i64 0, .bool false, .int .i64 0, .float .f64 0, .string { data := #[] }, .string { data := #[] }, .slice none 0 0, .slice none 0 0]) (t := 27) (n := 8) rfl
    simpa using h
  rw [← eW]
  clear eW
  refine (each_any its (fun v hv => ihI v hv (hsI.all v hv)) ai nI ci W (VlsAt.below bW its _ _ hI) (by rw [← VlsAt.len its _ _ hI]; exact hl1) hni hai).mono ?_
  rintro e w1 ⟨aj, cj, Fi, rfl, hOI, hndI, hFI, b1, q1, q2, q3, zI⟩
  have hl : w.heap.size < W.heap.size := by omega
  have y0 := keepC b1 hl x0
  have y1 := keepC b1 hl x1
  have y2 := keepC b1 hl x2
  have y3 := keepC b1 hl x3
  have y4 := keepC b1 hl x4
  have y5 := keepC b1 hl x5
  have y6 := keepC b1 hl x6
  have y7 := keepC b1 hl x7
  have yf : ∀ j, w1.frozen? ⟨w.heap.size, j, none⟩ = false := fun j => (b1.frozen (p := ⟨w.heap.size, j, none⟩) hl).trans (xf j)
  have hO := hide hOI
  clear x0 x1 x2 x3 x4 x5 x6 x7 xf hOI
  go_wp2_with fail
  obtain ⟨w2, e2⟩ : ∃ w2, w2 = w1.setCell ⟨w.heap.size, 6, none⟩ (.slice aj nI cj) := ⟨_, rfl⟩
  have hs1 : w.heap.size < w1.heap.size := Nat.lt_of_lt_of_le hl b1.size
  have hs2 : w2.heap.size = w1.heap.size := by rw [e2]; simp
  have b2 : Below w.heap.size w w2 := by rw [e2]; exact (bW.trans (b1.mono bW.size)).setCell (p := ⟨w.heap.size, 6, none⟩) (Nat.le_refl _) _
  have u0 : w2.cell? ⟨w.heap.size, 0, none⟩ = some (.int .i64 kd) := by rw [e2, World.cell?_setCell_other _ _ _ _ (by simp)]; exact y0
  have u1 : w2.cell? ⟨w.heap.size, 1, none⟩ = some (.bool bb) := by rw [e2, World.cell?_setCell_other _ _ _ _ (by simp)]; exact y1
  have u2 : w2.cell? ⟨w.heap.size, 2, none⟩ = some (.int .i64 ni) := by rw [e2, World.cell?_setCell_other _ _ _ _ (by simp)]; exact y2
  have u3 : w2.cell? ⟨w.heap.size, 3, none⟩ = some (.float .f64 f) := by rw [e2, World.cell?_setCell_other _ _ _ _ (by simp)]; exact y3
  have u4 : w2.cell? ⟨w.heap.size, 4, none⟩ = some (.string tx) := by rw [e2, World.cell?_setCell_other _ _ _ _ (by simp)]; exact y4
  have u5 : w2.cell? ⟨w.heap.size, 5, none⟩ = some (.string ty) := by rw [e2, World.cell?_setCell_other _ _ _ _ (by simp)]; exact y5
  have u6 : w2.cell? ⟨w.heap.size, 6, none⟩ = some (.slice aj nI cj) := by rw [e2]; exact World.cell?_setCell_same _ _ _ y6
  have u7 : w2.cell? ⟨w.heap.size, 7, none⟩ = some (.slice af nf cf) := by rw [e2, World.cell?_setCell_other _ _ _ _ (by simp)]; exact y7
  have uf : ∀ j, w2.frozen? ⟨w.heap.size, j, none⟩ = false := by intro j; rw [e2]; simpa using yf j
  have hth2 : w2.there (w.heap.size + 1) 0 8 := by
    have h1 := there_below hth b1 (by omega)
    have : w2 = w1.setCells w.heap.size 6 [.slice aj nI cj] := e2
    rw [this]
    exact World.there_setCells h1 _ _ _
  have zI2 : Fz w2 Fi := by
    have : w2 = w1.setCells w.heap.size 6 [.slice aj nI cj] := e2
    rw [this]
    exact zI.setCells _ _ _
  have HzI := hide zI2
  clear zI zI2
  have ag2 : ∀ F : List Nat, w.heap.size ∉ F → Agree F w1 w2 := fun F hF => by
    have : w2 = w1.setCells w.heap.size 6 [.slice aj nI cj] := e2
    rw [this]
    exact agree_setCells w1 hF
  rw [← e2]
  clear e2 y0 y1 y2 y3 y4 y5 y6 y7 yf
  refine (eachM_any fls (fun q hq => ihF q hq (hsF.all q hq)) af nf cf w2 (FlsAt.below b2 fls _ _ hF) (by rw [← FlsAt.len fls _ _ hF]; exact hl2) hnf haf).mono ?_
  rintro e w3 ⟨ag, cg, Ff, rfl, hOF, hndF, hFF, b3, r1, r2, r3, zF⟩
  have hl2 : w.heap.size < w2.heap.size := by omega
  have z0 := keepC b3 hl2 u0
  have z1 := keepC b3 hl2 u1
  have z2 := keepC b3 hl2 u2
  have z3 := keepC b3 hl2 u3
  have z4 := keepC b3 hl2 u4
  have z5 := keepC b3 hl2 u5
  have z6 := keepC b3 hl2 u6
  have z7 := keepC b3 hl2 u7
  have zf : ∀ j, w3.frozen? ⟨w.heap.size, j, none⟩ = false := fun j => (b3.frozen (p := ⟨w.heap.size, j, none⟩) hl2).trans (uf j)
  have hOF' := hide hOF
  have HzF := hide zF
  clear zF
  clear u0 u1 u2 u3 u4 u5 u6 u7 uf hOF
  obtain ⟨L, eL⟩ : ∃ L : List Value, L = [.int .i64 kd, .bool bb, .int .i64 ni, .float .f64 f, .string tx, .string ty, .slice aj nI cj, .slice ag nf cg] := ⟨_, rfl⟩
  have hL8 : L.length = 8 := by rw [eL]; rfl
  have hth3 : (w3.setCell ⟨w.heap.size, 7, none⟩ (.slice ag nf cg)).there (w.heap.size + 1) 0 L.toArray.size := by
    simp only [List.size_toArray, hL8]
    have hsW := b1.size
    exact World.there_setCells (there_below hth2 b3 (by omega)) w.heap.size 7 [.slice ag nf cg]
  have ho8 : L.toArray.all (·.oneCell') = true := by rw [eL]; simp [Value.oneCell']
  have hrL : (w3.setCell ⟨w.heap.size, 7, none⟩ (.slice ag nf cg)).rangeAt w.heap.size 0 L := by
    intro j u hu
    rw [eL] at hu
    have hj : j < 8 := by have := (List.getElem?_eq_some_iff.1 hu).1; simpa using this
    rw [Nat.zero_add]
    rcases (by omega : j = 0 ∨ j = 1 ∨ j = 2 ∨ j = 3 ∨ j = 4 ∨ j = 5 ∨ j = 6 ∨ j = 7) with rfl | rfl | rfl | rfl | rfl | rfl | rfl | rfl
    · simp at hu; rw [← hu, World.cell?_setCell_other _ _ _ _ (by simp)]; exact z0
    · simp at hu; rw [← hu, World.cell?_setCell_other _ _ _ _ (by simp)]; exact z1
    · simp at hu; rw [← hu, World.cell?_setCell_other _ _ _ _ (by simp)]; exact z2
    · simp at hu; rw [← hu, World.cell?_setCell_other _ _ _ _ (by simp)]; exact z3
    · simp at hu; rw [← hu, World.cell?_setCell_other _ _ _ _ (by simp)]; exact z4
    · simp at hu; rw [← hu, World.cell?_setCell_other _ _ _ _ (by simp)]; exact z5
    · simp at hu; rw [← hu, World.cell?_setCell_other _ _ _ _ (by simp)]; exact z6
    · simp at hu; rw [← hu]; exact World.cell?_setCell_same _ _ _ z7
  have iL : (Try.prog.info? 27).map (·.size) = some L.length := by rw [hL8]; exact infoV
  have iL' : (Try.prog.info? 27).map (·.size) = some L.toArray.size := by simp [hL8, infoV]
  have HH := hide (And.intro hth3 (And.intro hrL (And.intro iL (And.intro iL' (And.intro hL8 eL)))))
  clear hth hth2 hth3 hrL iL iL' hL8 eL
  go_wp2_with (first
    | refine wpList_load_mid (by rfl) 27 _ (by rfl) w.heap.size 0 (by rfl) L _ (unhide HH).2.1 Try.underlying27 (by rfl) (unhide HH).2.2.1 ?_
    | refine wpList_store_mid (by rfl) 27 _ _ (by rfl) (w.heap.size + 1) 0 L.toArray (by rfl) (by rfl) (unhide HH).1 (unhide HH).2.2.2.1 ho8 ?_)
  obtain ⟨hth3, hrL, iL, iL', hL8, eL⟩ := unhide HH
  obtain ⟨w4, e4⟩ : ∃ w4, w4 = ((w3.setCell ⟨w.heap.size, 7, none⟩ (.slice ag nf cg)).setCells (w.heap.size + 1) 0 L) := ⟨_, rfl⟩
  have E4 : w4 = (w3.setCells w.heap.size 7 [.slice ag nf cg]).setCells (w.heap.size + 1) 0 L := e4
  have b4 : Below w.heap.size w3 w4 := by rw [E4]; exact below_setCells _ _ _ _ (below_setCells _ _ _ _ (Below.refl _ _) (Nat.le_refl _)) (Nat.le_succ _)
  have hs4 : w4.heap.size = w3.heap.size := by rw [E4, size_setCells, size_setCells]
  have hr4 : w4.rangeAt (w.heap.size + 1) 0 L := by rw [E4]; exact World.rangeAt_setCells_same _ _ _ _ (by have h := hth3; rw [List.size_toArray] at h; exact h)
  have ag4 : ∀ F : List Nat, (∀ b ∈ F, w.heap.size + 2 ≤ b) → Agree F w3 w4 := fun F hF => by
    rw [E4]
    exact (agree_setCells w3 (fun h => by have := hF _ h; omega)).trans (agree_setCells _ (fun h => by have := hF _ h; omega))
  refine bodyPost_ret (rgn.result_row rfl _ _ (w.heap.size + 1) 0 L _ rfl (by rw [← e4]; exact hr4) Try.underlying27 rfl iL) rfl ?_
  rw [← e4]
  have hsW := b1.size
  have gI : ∀ b ∈ Fi, w.heap.size + 2 ≤ b ∧ b < w1.heap.size := fun b hb => by have := hFI b hb; omega
  have gF : ∀ b ∈ Ff, w2.heap.size ≤ b ∧ b < w3.heap.size := hFF
  have hnI : w.heap.size ∉ Fi := fun h => by have := gI _ h; omega
  have agI : Agree Fi w1 w4 := ((ag2 Fi hnI).trans (Agree.of_below b3 (fun b hb => by have := gI b hb; omega))).trans (ag4 Fi (fun b hb => (gI b hb).1))
  have agF : Agree Ff w3 w4 := ag4 Ff (fun b hb => by have := gF b hb; omega)
  have z4 : Fz w4 (Fi ++ Ff) := by
    rw [E4]
    exact ((((unhide HzI).below b3 (fun b hb => by have := gI b hb; omega)).app (unhide HzF)).setCells _ _ _).setCells _ _ _
  refine ⟨L, Fi ++ Ff, rfl, ?_, ?_, ?_, ?_, z4⟩
  · unfold OwC
    refine ⟨aj, nI, cj, ag, nf, cg, Fi, Ff, eL, ?_, ?_, q1, r1, q2, r2, hk1, hk2, hk3, hk4, q3, r3, rfl⟩
    · rcases unhide hO with h | ⟨p, G, h1, rfl, h2⟩
      · exact .inl h
      · exact .inr ⟨p, G, h1, rfl, OwsIn.agree its p 0 nI G agI h2⟩
    · rcases unhide hOF' with h | ⟨p, G, h1, rfl, h2⟩
      · exact .inl h
      · exact .inr ⟨p, G, h1, rfl, OwfIn.agree fls p 0 nf G agF h2⟩
  · rw [List.nodup_append]
    exact ⟨hndI, hndF, fun x hx y hy e => by have h1 := (gI x hx).2; have h2 := (gF y hy).1; omega⟩
  · intro b hb
    have hs3 := b3.size
    rcases List.mem_append.1 hb with h | h
    · have := gI b h; omega
    · have := gF b h; omega
  · exact (b2.trans (b3.mono b2.size)).trans b4
end Go.Proofs.Ythpcpminikmcbaa.vl
namespace Go.Proofs.Ythpcpminikmcbaa.mem
set_option linter.unusedVariables false

def b52 : Nat := 4503599627370496
def b53 : Nat := 9007199254740992
def infR : Nat := 9218868437227405312
def sgnR : Nat := 9223372036854775808
/-- The unit, and what is left of it above 52 bits: two to the power of 1074 and of 1022. -/
def e22 : Nat := 1022
theorem e22_eq : e22 = 1022 := rfl
def k22 : Nat := 2 ^ e22
def k74 : Nat := 2 ^ (52 + e22)
theorem k22_pos : 0 < k22 := Nat.two_pow_pos e22
theorem b52_eq : b52 = 2 ^ 52 := rfl
theorem k74_eq : k74 = b52 * k22 := by
  unfold k74 k22
  rw [Nat.pow_add, b52_eq]
/-- A float without its sign, by its bits, is mantR times two to the power of exR, in units of the least float. -/
def mantR (r : Nat) : Nat := if r < b52 then r else b52 + r % b52
def exR (r : Nat) : Nat := r / b52 - 1
def vR (r : Nat) : Nat := mantR r * 2 ^ exR r
theorem vR_succ (r : Nat) : vR (r + 1) = vR r + 2 ^ exR r := by
  unfold vR mantR exR b52
  by_cases h : r < 4503599627370496
  · have e0 : r / 4503599627370496 - 1 = 0 := by omega
    rw [if_pos h, e0]
    by_cases h1 : r + 1 < 4503599627370496
    · have e1 : (r + 1) / 4503599627370496 - 1 = 0 := by omega
      rw [if_pos h1, e1]; simp
    · have e1 : (r + 1) / 4503599627370496 - 1 = 0 := by omega
      rw [if_neg h1, e1]; simp; omega
  · rw [if_neg h, if_neg (by omega)]
    by_cases h1 : (r + 1) % 4503599627370496 = 0
    · have e1 : (r + 1) / 4503599627370496 - 1 = (r / 4503599627370496 - 1) + 1 := by omega
      have e2 : r % 4503599627370496 = 4503599627370495 := by omega
      rw [h1, e1, e2, Nat.pow_succ]
      generalize 2 ^ (r / 4503599627370496 - 1) = p
      omega
    · have e1 : (r + 1) / 4503599627370496 = r / 4503599627370496 := by omega
      have e2 : (r + 1) % 4503599627370496 = r % 4503599627370496 + 1 := by omega
      rw [e1, e2, ← Nat.add_assoc, Nat.add_mul _ 1, Nat.one_mul]
theorem vR_mono {a b : Nat} (h : a < b) : vR a < vR b := by
  induction b with
  | zero => omega
  | succ b ih =>
    rw [vR_succ]
    have := Nat.two_pow_pos (exR b)
    by_cases e : a = b
    · rw [e]; omega
    · have := ih (by omega); omega
theorem vR_mono_le {a b : Nat} (h : a ≤ b) : vR a ≤ vR b := by
  rcases Nat.lt_or_ge a b with h1 | h1
  · exact Nat.le_of_lt (vR_mono h1)
  · rw [show a = b by omega]; exact Nat.le_refl _

/-- lo is the greatest float not above P over B (P in units of the least float). -/
def Lo (P B lo : Nat) : Prop := B * vR lo ≤ P ∧ P < B * vR (lo + 1)
theorem Lo.unique {P B a b : Nat} (h : Lo P B a) (h' : Lo P B b) : a = b := by
  rcases Nat.lt_trichotomy a b with hl | hl | hl
  · have := Nat.mul_le_mul_left B (vR_mono_le (show a + 1 ≤ b by omega))
    have := h.2; have := h'.1; omega
  · exact hl
  · have := Nat.mul_le_mul_left B (vR_mono_le (show b + 1 ≤ a by omega))
    have := h'.2; have := h.1; omega
def roundR (P B lo : Nat) : Nat := if B * (2 * vR lo + 2 ^ exR lo) < 2 * P ∨ (2 * P = B * (2 * vR lo + 2 ^ exR lo) ∧ lo % 2 = 1) then lo + 1 else lo

/-- The whole numbers' floats. -/
def loN (n : Nat) : Nat := (n.log2 + e22) * b52 + n * b52 / 2 ^ n.log2
theorem q_bd {n : Nat} (h : n ≠ 0) : b52 ≤ n * b52 / 2 ^ n.log2 ∧ n * b52 / 2 ^ n.log2 < b53 := by
  have h1 := Nat.log2_self_le h
  have h2 := Nat.lt_log2_self (n := n)
  have hp := Nat.two_pow_pos n.log2
  constructor
  · rw [Nat.le_div_iff_mul_le hp, Nat.mul_comm]
    exact Nat.mul_le_mul_right _ h1
  · rw [Nat.div_lt_iff_lt_mul hp]
    rw [Nat.pow_succ] at h2
    unfold b52 b53
    omega
theorem loN_parts {n : Nat} (h : n ≠ 0) : exR (loN n) = n.log2 + e22 ∧ mantR (loN n) = n * b52 / 2 ^ n.log2 ∧ loN n % 2 = (n * b52 / 2 ^ n.log2) % 2 := by
  obtain ⟨h1, h2⟩ := q_bd h
  unfold exR mantR loN
  generalize n * b52 / 2 ^ n.log2 = q at *
  generalize n.log2 = L at *
  unfold b52 b53 at *
  refine ⟨by omega, ?_, by omega⟩
  rw [if_neg (by omega)]
  omega
theorem loN_lo {n : Nat} (h : n ≠ 0) : Lo (n * k74) 1 (loN n) := by
  obtain ⟨h1, h2, -⟩ := loN_parts h
  have hp := Nat.two_pow_pos n.log2
  have hd := Nat.div_add_mod (n * b52) (2 ^ n.log2)
  have hm := Nat.mod_lt (n * b52) hp
  have hk := k22_pos
  have e : n * k74 = n * b52 * k22 := by rw [k74_eq, Nat.mul_assoc]
  unfold Lo
  rw [vR_succ, Nat.one_mul, Nat.one_mul]
  unfold vR
  rw [h1, h2, e, Nat.pow_add, show 2 ^ e22 = k22 from rfl]
  generalize n * b52 / 2 ^ n.log2 = q at *
  generalize n * b52 % 2 ^ n.log2 = t at *
  generalize n * b52 = m at *
  generalize 2 ^ n.log2 = g at *
  generalize k22 = k at *
  have e2 : q * (g * k) = (g * q) * k := by rw [← Nat.mul_assoc, Nat.mul_comm q g]
  rw [e2, ← Nat.add_mul]
  constructor
  · exact Nat.mul_le_mul_right _ (by omega)
  · exact Nat.mul_lt_mul_of_pos_right (by omega) hk

theorem cut_none (neg : Bool) (n : Nat) : Ieee.Toward.even.cut neg n 0 = n := by
  unfold Ieee.Toward.cut
  simp [Nat.mod_one]
theorem cut_some (neg : Bool) {n d : Nat} (h : d ≤ n.log2 + 2) : Ieee.Toward.even.cut neg n d = n / 2 ^ d + (decide (2 ^ d < 2 * (n % 2 ^ d)) || (2 ^ d == 2 * (n % 2 ^ d) && (n / 2 ^ d) % 2 == 1)).toNat := by
  unfold Ieee.Toward.cut
  simp only [Nat.min_eq_left h, Nat.shiftLeft_eq, Nat.one_mul]
theorem round_exact {P lo : Nat} (h : P = vR lo) : roundR P 1 lo = lo := by
  unfold roundR
  have := Nat.two_pow_pos (exR lo)
  rw [if_neg]
  omega
theorem min_small {L q : Nat} (hL : L < 64) (hq : q ≤ b53) : min ((L + e22) * b52 + q) infR = (L + e22) * b52 + q := by
  have := e22_eq
  unfold b52 b53 infR at *
  omega
theorem nearest_int (neg : Bool) {n : Nat} (h : n ≠ 0) (hn : n < 2 ^ 64) : Ieee.double.nearest neg n 0 = Ieee.double.word neg (roundR (n * k74) 1 (loN n)) := by
  have hL : n.log2 < 64 := (Nat.log2_lt h).2 hn
  obtain ⟨p1, p2, p3⟩ := loN_parts h
  obtain ⟨b1, b2⟩ := q_bd h
  have hp := Nat.two_pow_pos n.log2
  have hk := k22_pos
  have e : n * k74 = n * b52 * k22 := by rw [k74_eq, Nat.mul_assoc]
  unfold Ieee.Format.nearest
  rw [if_neg h]
  have hlast : max ((0 : Int) + n.log2 - Ieee.double.fractionBits) (-1074) = (n.log2 : Int) - 52 := by
    unfold Ieee.double
    simp only
    omega
  have hlp : Ieee.double.leastPlace = -1074 := by rfl
  have hbn : Ieee.double.binade = b52 := by rfl
  have hinf : Ieee.double.infRung = infR := by rfl
  simp only [hlp, hlast, hbn, hinf]
  refine congrArg (Ieee.double.word neg) ?_
  have hT : ((n.log2 : Int) - 52 - -1074).toNat = n.log2 + e22 := by rw [e22_eq]; omega
  rw [hT]
  by_cases h52 : n.log2 ≤ 52
  · have e1 : ((n.log2 : Int) - 52 - 0).toNat = 0 := by omega
    have e2 : ((0 : Int) - ((n.log2 : Int) - 52)).toNat = 52 - n.log2 := by omega
    rw [e1, e2, cut_none, Nat.shiftLeft_eq]
    have eb : b52 = 2 ^ (52 - n.log2) * 2 ^ n.log2 := by rw [← Nat.pow_add, show 52 - n.log2 + n.log2 = 52 by omega]; rfl
    have eq : n * b52 / 2 ^ n.log2 = n * 2 ^ (52 - n.log2) := by
      rw [eb, ← Nat.mul_assoc, Nat.mul_div_cancel _ hp]
    have ev : n * k74 = vR (loN n) := by
      unfold vR
      rw [p1, p2, eq, e, eb, Nat.pow_add, show 2 ^ e22 = k22 from rfl]
      rw [← Nat.mul_assoc, ← Nat.mul_assoc]
    rw [round_exact ev]
    unfold loN
    rw [eq] at b1 b2 ⊢
    exact min_small hL (Nat.le_of_lt b2)
  · have hLL : n.log2 = (n.log2 - 52) + 52 := by omega
    have e1 : ((n.log2 : Int) - 52 - 0).toNat = n.log2 - 52 := by omega
    have e2 : ((0 : Int) - ((n.log2 : Int) - 52)).toNat = 0 := by omega
    rw [e1, e2, Nat.shiftLeft_zero, cut_some neg (by omega)]
    have hg := Nat.two_pow_pos (n.log2 - 52)
    have eL : 2 ^ n.log2 = 2 ^ (n.log2 - 52) * b52 := by
      conv => lhs; rw [hLL]
      rw [Nat.pow_add]; rfl
    have eq : n * b52 / 2 ^ n.log2 = n / 2 ^ (n.log2 - 52) := by
      rw [eL]
      exact Nat.mul_div_mul_right _ _ (by decide)
    have hdm := Nat.div_add_mod n (2 ^ (n.log2 - 52))
    have hml := Nat.mod_lt n hg
    have hr : roundR (n * k74) 1 (loN n) = loN n + (decide (2 ^ (n.log2 - 52) < 2 * (n % 2 ^ (n.log2 - 52))) || (2 ^ (n.log2 - 52) == 2 * (n % 2 ^ (n.log2 - 52)) && (n / 2 ^ (n.log2 - 52)) % 2 == 1)).toNat := by
      unfold roundR vR
      rw [p1, p2, p3, eq, e, Nat.pow_add, eL, show 2 ^ e22 = k22 from rfl]
      generalize n / 2 ^ (n.log2 - 52) = q at *
      generalize n % 2 ^ (n.log2 - 52) = t at *
      generalize 2 ^ (n.log2 - 52) = g at *
      generalize k22 = k at *
      have f1 : 1 * (2 * (q * (g * b52 * k)) + g * b52 * k) = (2 * (g * q) + g) * (b52 * k) := by
        rw [Nat.one_mul, Nat.add_mul, Nat.mul_assoc g b52 k, Nat.mul_assoc 2 (g * q), ← Nat.mul_assoc q g, Nat.mul_comm q g]
      have f2 : 2 * (n * b52 * k) = (2 * n) * (b52 * k) := by rw [Nat.mul_assoc n, Nat.mul_assoc 2]
      have hbk : 0 < b52 * k := Nat.mul_pos (by decide) hk
      rw [f1, f2]
      generalize b52 * k = j at *
      have g1 : (2 * (g * q) + g) * j < 2 * n * j ↔ g < 2 * t := by
        rw [Nat.mul_lt_mul_right hbk]; omega
      have g2 : 2 * n * j = (2 * (g * q) + g) * j ↔ g = 2 * t := by
        rw [Nat.mul_right_cancel_iff hbk]; omega
      simp only [g1, g2]
      by_cases c1 : g < 2 * t
      · simp [c1]
      · by_cases c2 : g = 2 * t
        · by_cases c3 : q % 2 = 1
          · simp [c2, c3]
          · have : ¬ (g < 2 * t ∨ g = 2 * t ∧ q % 2 = 1) := by omega
            rw [if_neg this]
            simp [c2, c3]
        · have : ¬ (g < 2 * t ∨ g = 2 * t ∧ q % 2 = 1) := by omega
          rw [if_neg this]
          simp [c1, c2]
    rw [hr]
    unfold loN
    rw [eq] at b1 b2 ⊢
    generalize (decide (2 ^ (n.log2 - 52) < 2 * (n % 2 ^ (n.log2 - 52))) || (2 ^ (n.log2 - 52) == 2 * (n % 2 ^ (n.log2 - 52)) && (n / 2 ^ (n.log2 - 52)) % 2 == 1)) = bb at *
    have hb1 := Bool.toNat_le bb
    rw [Nat.add_assoc]
    exact min_small hL (by unfold b53 at b2 ⊢; omega)
end Go.Proofs.Ythpcpminikmcbaa.mem
namespace Go.Proofs.Ythpcpminikmcbaa.mem
set_option linter.unusedVariables false

def sv (ng : Bool) (v : Nat) : Int := if ng then -(v : Int) else (v : Int)
theorem dec_fin (ng : Bool) (r : Nat) (h : r < 9218868437227405312) : FloatKind.f64.decode (Ieee.double.word ng r) = .number ng (mantR r) ((exR r : Int) - 1074) := by
  have hs : Ieee.double.signWeight = 9223372036854775808 := by rfl
  have hb : Ieee.double.binade = b52 := by rfl
  have hi : Ieee.double.infRung = 9218868437227405312 := by rfl
  have hl : Ieee.double.leastPlace = -1074 := by rfl
  have e1 : Ieee.double.word ng r / 9223372036854775808 % 2 = ng.toNat ∧ Ieee.double.word ng r % 9223372036854775808 = r := by
    unfold Ieee.Format.word
    rw [hs]
    cases ng
    · simp; omega
    · simp; omega
  show Ieee.double.read _ = _
  unfold Ieee.Format.read
  simp only [hs, hb, hi, hl, e1.1, e1.2]
  have e2 : (ng.toNat == 1) = ng := by cases ng <;> rfl
  rw [e2]
  unfold mantR exR
  by_cases h0 : r < b52
  · rw [if_pos h0, if_pos h0]
    have : r / b52 = 0 := Nat.div_eq_of_lt h0
    rw [this]; rfl
  · rw [if_neg h0, if_neg h0, if_pos h]
    have : 1 ≤ r / b52 := Nat.div_pos (by omega) (by decide)
    congr 1
theorem dec_inf (ng : Bool) : FloatKind.f64.decode (Ieee.double.word ng 9218868437227405312) = .infinity ng := by
  have hs : Ieee.double.signWeight = 9223372036854775808 := by rfl
  have hb : Ieee.double.binade = b52 := by rfl
  have hi : Ieee.double.infRung = 9218868437227405312 := by rfl
  have e1 : Ieee.double.word ng 9218868437227405312 / 9223372036854775808 % 2 = ng.toNat ∧ Ieee.double.word ng 9218868437227405312 % 9223372036854775808 = 9218868437227405312 := by
    unfold Ieee.Format.word
    rw [hs]
    cases ng <;> simp
  show Ieee.double.read _ = _
  unfold Ieee.Format.read
  simp only [hs, hb, hi, e1.1, e1.2]
  have e2 : (ng.toNat == 1) = ng := by cases ng <;> rfl
  rw [e2, if_neg (by unfold b52; omega), if_neg (by omega)]
  simp only [if_true]
theorem dec_nan (ng : Bool) (r : Nat) (h : 9218868437227405312 < r) (h2 : r < 9223372036854775808) : ∃ f, FloatKind.f64.decode (Ieee.double.word ng r) = .nan ng f := by
  have hs : Ieee.double.signWeight = 9223372036854775808 := by rfl
  have hb : Ieee.double.binade = b52 := by rfl
  have hi : Ieee.double.infRung = 9218868437227405312 := by rfl
  have e1 : Ieee.double.word ng r / 9223372036854775808 % 2 = ng.toNat ∧ Ieee.double.word ng r % 9223372036854775808 = r := by
    unfold Ieee.Format.word
    rw [hs]
    cases ng
    · simp; omega
    · simp; omega
  refine ⟨r - 9218868437227405312, ?_⟩
  show Ieee.double.read _ = _
  unfold Ieee.Format.read
  simp only [hs, hb, hi, e1.1, e1.2]
  have e2 : (ng.toNat == 1) = ng := by cases ng <;> rfl
  rw [e2, if_neg (by unfold b52; omega), if_neg (by omega), if_neg (by omega)]
theorem word_of (x : Nat) (h : x < 18446744073709551616) : Ieee.double.word (decide (9223372036854775808 ≤ x)) (x % 9223372036854775808) = x := by
  have hs : Ieee.double.signWeight = 9223372036854775808 := by rfl
  unfold Ieee.Format.word
  rw [hs]
  by_cases hx : 9223372036854775808 ≤ x
  · simp [hx]; omega
  · simp [hx]; omega
theorem signed_eq (ng : Bool) (m u : Nat) : Ieee.signed ng m u = sv ng (m * 2 ^ u) := by
  unfold Ieee.signed sv
  rw [Nat.shiftLeft_eq]
theorem sv_mul (ng : Bool) (v k : Nat) : sv ng (v * k) = sv ng v * (k : Int) := by
  unfold sv
  cases ng
  · simp
  · simp only [if_true]; rw [Int.natCast_mul, Int.neg_mul]
theorem compare_mul (a b : Int) (k : Nat) (hk : 0 < k) : compare (a * (k : Int)) (b * (k : Int)) = compare a b := by
  have hk' : (0 : Int) < (k : Int) := by omega
  rcases Int.lt_trichotomy a b with h | h | h
  · rw [Int.compare_eq_lt.2 h, Int.compare_eq_lt.2 (Int.mul_lt_mul_of_pos_right h hk')]
  · subst h; rw [Int.compare_eq_eq.2 rfl, Int.compare_eq_eq.2 rfl]
  · rw [Int.compare_eq_gt.2 h, Int.compare_eq_gt.2 (Int.mul_lt_mul_of_pos_right h hk')]
/-- Two finite numbers by their values in units of the least float. -/
theorem order_fin (s t : Bool) (m n i j : Nat) : (Ieee.Datum.number s m ((i : Int) - 1074)).order (.number t n ((j : Int) - 1074)) = some (compare (sv s (m * 2 ^ i)) (sv t (n * 2 ^ j))) := by
  unfold Ieee.Datum.order
  simp only [signed_eq, Option.some.injEq]
  have e1 : ((i : Int) - 1074 - min ((i : Int) - 1074) ((j : Int) - 1074)).toNat = i - min i j := by omega
  have e2 : ((j : Int) - 1074 - min ((i : Int) - 1074) ((j : Int) - 1074)).toNat = j - min i j := by omega
  rw [e1, e2, ← compare_mul _ _ (2 ^ min i j) (Nat.two_pow_pos _), ← sv_mul, ← sv_mul, Nat.mul_assoc, Nat.mul_assoc, ← Nat.pow_add, ← Nat.pow_add,
    show i - min i j + min i j = i by omega, show j - min i j + min i j = j by omega]
theorem order_word (s t : Bool) (a b : Nat) (ha : a < 9218868437227405312) (hb : b < 9218868437227405312) : FloatKind.f64.format.order (Ieee.double.word s a) (Ieee.double.word t b) = some (compare (sv s (vR a)) (sv t (vR b))) := by
  show (FloatKind.f64.decode _).order (FloatKind.f64.decode _) = _
  rw [dec_fin s a ha, dec_fin t b hb, order_fin]
  rfl
end Go.Proofs.Ythpcpminikmcbaa.mem
namespace Go.Proofs.Ythpcpminikmcbaa.vl
open Go.ChangeShapes Go.WideShapes Go.ChangeAt Go.RowKit
open mem
set_option linter.unusedVariables false
def nanF (x : Nat) : Bool := decide (9218868437227405312 < x % 9223372036854775808)
theorem ordSelf (x : Nat) (h : x < 18446744073709551616) : (FloatKind.f64.format.order x x != some Ordering.eq) = nanF x ∧ (FloatKind.f64.format.order x x == some Ordering.eq) = !nanF x := by
  have key : (FloatKind.f64.format.order x x == some Ordering.eq) = !nanF x := by
    have hw := word_of x h
    obtain ⟨r, hr⟩ : ∃ r, r = x % 9223372036854775808 := ⟨_, rfl⟩
    obtain ⟨ng, hng⟩ : ∃ ng, ng = decide (9223372036854775808 ≤ x) := ⟨_, rfl⟩
    have hrl : r < 9223372036854775808 := by omega
    unfold nanF
    rw [← hr]
    rw [← hr, ← hng] at hw
    clear hr hng
    rw [← hw]
    show ((FloatKind.f64.decode _).order (FloatKind.f64.decode _) == some Ordering.eq) = _
    rcases Nat.lt_trichotomy r 9218868437227405312 with h1 | h1 | h1
    · rw [dec_fin ng r h1, order_fin, Int.compare_eq_eq.2 rfl, decide_eq_false (by omega)]; rfl
    · subst h1
      rw [dec_inf, decide_eq_false (by omega)]
      cases ng <;> rfl
    · obtain ⟨f, hf⟩ := dec_nan ng r h1 hrl
      rw [hf, decide_eq_true h1]; rfl
  refine ⟨?_, key⟩
  show (!(FloatKind.f64.format.order x x == some Ordering.eq)) = _
  rw [key]
  cases nanF x <;> rfl
theorem ordZero (x : Nat) (h : x < 18446744073709551616) (h0 : x % 9223372036854775808 ≠ 0) : (FloatKind.f64.format.order x 0 == some Ordering.eq) = false := by
  have hw := word_of x h
  obtain ⟨r, hr⟩ : ∃ r, r = x % 9223372036854775808 := ⟨_, rfl⟩
  obtain ⟨ng, hng⟩ : ∃ ng, ng = decide (9223372036854775808 ≤ x) := ⟨_, rfl⟩
  have hrl : r < 9223372036854775808 := by omega
  rw [← hr] at h0
  rw [← hr, ← hng] at hw
  clear hr hng
  rw [← hw]
  have hz : FloatKind.f64.decode 0 = .number false (mantR 0) ((exR 0 : Int) - 1074) := dec_fin false 0 (by omega)
  show ((FloatKind.f64.decode _).order (FloatKind.f64.decode 0) == some Ordering.eq) = _
  rw [hz]
  rcases Nat.lt_trichotomy r 9218868437227405312 with h1 | h1 | h1
  · rw [dec_fin ng r h1, order_fin]
    have hm : 0 < mantR r * 2 ^ exR r := Nat.mul_pos (by unfold mantR; split <;> (unfold b52 at *; omega)) (Nat.two_pow_pos _)
    have hm0 : mantR 0 * 2 ^ exR 0 = 0 := by simp [mantR, b52]
    rw [hm0]
    generalize mantR r * 2 ^ exR r = M at *
    have : compare (sv ng M) (sv false 0) ≠ Ordering.eq := fun e => by
      have := Int.compare_eq_eq.1 e
      cases ng <;> simp [sv] at this <;> omega
    simp [this]
  · subst h1
    rw [dec_inf]
    cases ng <;> rfl
  · obtain ⟨f, hf⟩ := dec_nan ng r h1 hrl
    rw [hf]; rfl
end Go.Proofs.Ythpcpminikmcbaa.vl
namespace Go.Proofs.Ythpcpminikmcbaa.vl
open Go.ChangeShapes Go.WideShapes Go.ChangeAt Go.RowKit
set_option linter.unusedVariables false
set_option linter.unusedSimpArgs false
set_option maxHeartbeats 4000000 in
/-- SameFloat of a float and itself -/
theorem sf_ok (f : Nat) (hf : f < 18446744073709551616) (w : World) : Calls Try.prog 33 #[.float .f64 f, .float .f64 f] w fun e w' => e = .returned (.bool true) ∧ Below w.heap.size w w' := by
  obtain ⟨hs1, hs2⟩ := ordSelf f hf
  cases hN : nanF f with
  | true =>
    rw [hN] at hs1 hs2
    go_enter Try.func33, Try.ntmps33
    go_wp2
    go_ret
    exact ⟨rfl, Below.refl _ _⟩
  | false =>
    rw [hN] at hs1 hs2
    clear hN
    by_cases h0 : f % 9223372036854775808 = 0
    · rcases (by omega : f = 0 ∨ f = 9223372036854775808) with rfl | rfl
      · have hz : (FloatKind.f64.format.order 0 0 == some Ordering.eq) = true := by decide
        have hq : ∀ w, (binOp .quo 23 (.float .f64 4607182418800017408) (.float .f64 0)).run Try.prog w = .ok (.float .f64 9218868437227405312) w := fun w => run_float_arith w _ _ _ _ _ _ (by decide)
        have hi : (FloatKind.f64.format.order 9218868437227405312 9218868437227405312 == some Ordering.eq) = true := by decide
        clear hf h0 hs1 hs2
        have hz' : (FloatKind.f64.format.order 0 0 != some Ordering.eq) = false := by decide
        go_enter Try.func33, Try.ntmps33
        go_wp2
        go_ret
        exact ⟨rfl, Below.refl _ _⟩
      · have hz : (FloatKind.f64.format.order 9223372036854775808 0 == some Ordering.eq) = true := by decide
        have hq : ∀ w, (binOp .quo 23 (.float .f64 4607182418800017408) (.float .f64 9223372036854775808)).run Try.prog w = .ok (.float .f64 18442240474082181120) w := fun w => run_float_arith w _ _ _ _ _ _ (by decide)
        have hi : (FloatKind.f64.format.order 18442240474082181120 18442240474082181120 == some Ordering.eq) = true := by decide
        clear hf h0 hs2
        go_enter Try.func33, Try.ntmps33
        go_wp2
        go_ret
        exact ⟨rfl, Below.refl _ _⟩
    · have hz := ordZero f hf h0
      clear h0 hf
      go_enter Try.func33, Try.ntmps33
      go_wp2
      go_ret
      exact ⟨rfl, Below.refl _ _⟩
set_option maxHeartbeats 6000000 in
set_option maxRecDepth 6000 in
theorem whole_eq : ∀ v : Vl, Small v → ∀ (cs ds : List Value) (w : World), VlC w v cs → VlC w v ds → Calls Try.prog 15 #[.agg cs.toArray, .agg ds.toArray] w fun e w' => e = .returned (.bool true) ∧ Below w.heap.size w w' := by
  refine Vl.all ?_
  intro kd b n f tx ty its fls ihI ihF hsm cs ds w h1 h2
  unfold Small at hsm
  obtain ⟨-, -, hfl, hsI, hsF⟩ := hsm
  unfold VlC at h1 h2
  obtain ⟨ai, ni, ci, af, nf, cf, rfl, hI, hF, hni, hnf, -, -, -, -, -, -, hci, hcf⟩ := h1
  have bI : ni ≤ 9223372036854775807 := by unfold maxLen at hci; omega
  have bF : nf ≤ 9223372036854775807 := by unfold maxLen at hcf; omega
  clear hni hnf hci hcf
  obtain ⟨bi, mi, di, bf, mf, df, rfl, gI, gF, -⟩ := h2
  obtain rfl : ni = mi := (VlsAt.len its _ _ hI).symm.trans (VlsAt.len its _ _ gI)
  obtain rfl : nf = mf := (FlsAt.len fls _ _ hF).symm.trans (FlsAt.len fls _ _ gF)
  have HS := sf_ok f hfl
  clear hfl
  go_enter Try.func15, Try.ntmps15
  go_wp2_with fail
  have b0 : Below w.heap.size w ((w.alloc (.cells #[.int .i64 kd, .bool b, .int .i64 n, .float .f64 f, .string tx, .string ty, .slice ai ni ci, .slice af nf cf] 27)).alloc (.cells #[.int .i64 kd, .bool b, .int .i64 n, .float .f64 f, .string tx, .string ty, .slice bi ni di, .slice bf nf df] 27)) := ((Below.refl _ _).alloc (Nat.le_refl _) _).alloc (by simp) _
  obtain ⟨W, eW⟩ : ∃ W, W = ((w.alloc (.cells #[.int .i64 kd, .bool b, .int .i64 n, .float .f64 f, .string tx, .string ty, .slice ai ni ci, .slice af nf cf] 27)).alloc (.cells #[.int .i64 kd, .bool b, .int .i64 n, .float .f64 f, .string tx, .string ty, .slice bi ni di, .slice bf nf df] 27)) := ⟨_, rfl⟩
  have x6 : W.cell? ⟨w.heap.size, 6, none⟩ = some (.slice ai ni ci) := by rw [eW]; simp
  have x7 : W.cell? ⟨w.heap.size, 7, none⟩ = some (.slice af nf cf) := by rw [eW]; simp
  have y6 : W.cell? ⟨w.heap.size + 1, 6, none⟩ = some (.slice bi ni di) := by rw [eW]; simp
  have y7 : W.cell? ⟨w.heap.size + 1, 7, none⟩ = some (.slice bf nf df) := by rw [eW]; simp
  have hsz : w.heap.size + 1 < W.heap.size := by rw [eW]; simp
  rw [← eW] at b0 ⊢
  clear eW
  have hI := VlsAt.below b0 its _ _ hI
  have gI := VlsAt.below b0 its _ _ gI
  have hF := FlsAt.below b0 fls _ _ hF
  have gF := FlsAt.below b0 fls _ _ gF
  refine (HS _).mono ?_
  clear HS
  rintro e w1 ⟨rfl, b1⟩
  have x6' := (b1.cell (p := ⟨w.heap.size, 6, none⟩) (show w.heap.size < W.heap.size by omega)).trans x6
  have x7' := (b1.cell (p := ⟨w.heap.size, 7, none⟩) (show w.heap.size < W.heap.size by omega)).trans x7
  have y6' := (b1.cell (p := ⟨w.heap.size + 1, 6, none⟩) (show w.heap.size + 1 < W.heap.size by omega)).trans y6
  have y7' := (b1.cell (p := ⟨w.heap.size + 1, 7, none⟩) (show w.heap.size + 1 < W.heap.size by omega)).trans y7
  go_wp2_with fail
  go_loopw [5] (fun vk wr => ∃ k : Nat, k ≤ ni ∧ vk = .int .i64 k ∧ Below W.heap.size W wr) (fun vk _ => ni - (intOf vk).toNat)
  case atStart => exact ⟨0, Nat.zero_le _, rfl, b1⟩
  case round =>
    obtain ⟨k, hk, rfl, hbk⟩ := hrel
    clear x6' x7' y6' y7'
    have x6' := (hbk.cell (p := ⟨w.heap.size, 6, none⟩) (show w.heap.size < W.heap.size by omega)).trans x6
    have x7' := (hbk.cell (p := ⟨w.heap.size, 7, none⟩) (show w.heap.size < W.heap.size by omega)).trans x7
    have y6' := (hbk.cell (p := ⟨w.heap.size + 1, 6, none⟩) (show w.heap.size + 1 < W.heap.size by omega)).trans y6
    have y7' := (hbk.cell (p := ⟨w.heap.size + 1, 7, none⟩) (show w.heap.size + 1 < W.heap.size by omega)).trans y7
    by_cases hlt : k < ni
    · have ki : (k : Int) < (ni : Int) := by omega
      obtain ⟨p, off, v, us, rfl, hv, hr, hc⟩ := VlsAt.get its _ _ (VlsAt.below hbk its _ _ hI) k hlt
      obtain ⟨q, off', v', vs, rfl, hv', hr', hc'⟩ := VlsAt.get its _ _ (VlsAt.below hbk its _ _ gI) k hlt
      obtain rfl : v = v' := Option.some.inj (hv.symm.trans hv')
      have IH := hide (ihI v (List.mem_of_getElem? hv) (hsI.all v (List.mem_of_getElem? hv)) us vs)
      have iu : (Try.prog.info? 27).map (·.size) = some us.length := by rw [hc.cells]; exact infoV
      have iv : (Try.prog.info? 27).map (·.size) = some vs.length := by rw [hc'.cells]; exact infoV
      have hlx : w.heap.size < wr.heap.size := Nat.lt_of_lt_of_le (show w.heap.size < W.heap.size by omega) hbk.size
      have hly : w.heap.size + 1 < wr.heap.size := Nat.lt_of_lt_of_le (show w.heap.size + 1 < W.heap.size by omega) hbk.size
      have HH := hide (And.intro hr (And.intro hr' (And.intro hc (And.intro hc' (And.intro iu iv)))))
      clear hr hr' hc hc' hv hv' iu iv
      go_wp2_with fail
      have hS0 : Below wr.heap.size wr { wr with drawn := wr.drawn + 1 } := (Below.refl _ _).drew
      refine wp_region_noPanic ?_
      refine wp_region_held (S := fun w' => Below wr.heap.size wr w') mixed ?_
      refine wpAnyH_take (i := 0) (v := ?v1) rfl (by kernel_rfl) (by kernel_rfl) (by kernel_rfl) (fun _ _ _ h => h) (Or.inl ⟨by rfl, ?hy1⟩) hS0 ?_
      case hy1 => (intro w' hw'; have c6 := keepC hw' hlx x6'; have d6 := keepC hw' hly y6'; go_simp; try with_reducible rfl)
      simp only [List.getElem_toArray, List.getElem_cons_zero, List.getElem_cons_succ, Act.put, List.setIfInBounds_toArray, List.set_cons_zero, List.set_cons_succ]
      refine wpAnyH_take (i := 1) (v := ?v2) rfl (by kernel_rfl) (by kernel_rfl) (by kernel_rfl) (fun _ _ _ h => h) (Or.inl ⟨by rfl, ?hy2⟩) hS0 ?_
      case hy2 => (intro w' hw'; have c6 := keepC hw' hlx x6'; have d6 := keepC hw' hly y6'; go_simp; try with_reducible rfl)
      simp only [List.getElem_toArray, List.getElem_cons_zero, List.getElem_cons_succ, Act.put, List.setIfInBounds_toArray, List.set_cons_zero, List.set_cons_succ]
      refine wpAnyH_take (i := 2) (v := ?v3) rfl (by kernel_rfl) (by kernel_rfl) (by kernel_rfl) (fun _ _ _ h => h) (Or.inl ⟨by rfl, ?hy3⟩) hS0 ?_
      case hy3 => (intro w' hw'; have c6 := keepC hw' hlx x6'; have d6 := keepC hw' hly y6'; go_simp; try with_reducible rfl)
      simp only [List.getElem_toArray, List.getElem_cons_zero, List.getElem_cons_succ, Act.put, List.setIfInBounds_toArray, List.set_cons_zero, List.set_cons_succ]
      refine wpAnyH_take (i := 3) (v := ?v4) rfl (by kernel_rfl) (by kernel_rfl) (by kernel_rfl) (fun _ _ _ h => h) (Or.inl ⟨by rfl, ?hy4⟩) hS0 ?_
      case hy4 => (intro w' hw'; have c6 := keepC hw' hlx x6'; have d6 := keepC hw' hly y6'; go_simp; try with_reducible rfl)
      simp only [List.getElem_toArray, List.getElem_cons_zero, List.getElem_cons_succ, Act.put, List.setIfInBounds_toArray, List.set_cons_zero, List.set_cons_succ]
      refine wpAnyH_take (i := 4) rfl (by kernel_rfl) (by kernel_rfl) (by kernel_rfl) (fun _ _ _ h => h) (yieldsIf_load_mid (by rfl) 27 _ (by rfl) p (off + k * 8) (by rfl) us _ (fun w' hw' => Row8.below (unhide HH).1 hw') Try.underlying27 (by rfl) (unhide HH).2.2.2.2.1) hS0 ?_
      simp only [List.getElem_toArray, List.getElem_cons_zero, List.getElem_cons_succ, Act.put, List.setIfInBounds_toArray, List.set_cons_zero, List.set_cons_succ]
      refine wpAnyH_take (i := 5) (v := ?v5) rfl (by kernel_rfl) (by kernel_rfl) (by kernel_rfl) (fun _ _ _ h => h) (Or.inl ⟨by rfl, ?hy5⟩) hS0 ?_
      case hy5 => (intro w' hw'; have c6 := keepC hw' hlx x6'; have d6 := keepC hw' hly y6'; go_simp; try with_reducible rfl)
      simp only [List.getElem_toArray, List.getElem_cons_zero, List.getElem_cons_succ, Act.put, List.setIfInBounds_toArray, List.set_cons_zero, List.set_cons_succ]
      refine wpAnyH_take (i := 6) (v := ?v6) rfl (by kernel_rfl) (by kernel_rfl) (by kernel_rfl) (fun _ _ _ h => h) (Or.inl ⟨by rfl, ?hy6⟩) hS0 ?_
      case hy6 => (intro w' hw'; have c6 := keepC hw' hlx x6'; have d6 := keepC hw' hly y6'; go_simp; try with_reducible rfl)
      simp only [List.getElem_toArray, List.getElem_cons_zero, List.getElem_cons_succ, Act.put, List.setIfInBounds_toArray, List.set_cons_zero, List.set_cons_succ]
      refine wpAnyH_take (i := 7) (v := ?v7) rfl (by kernel_rfl) (by kernel_rfl) (by kernel_rfl) (fun _ _ _ h => h) (Or.inl ⟨by rfl, ?hy7⟩) hS0 ?_
      case hy7 => (intro w' hw'; have c6 := keepC hw' hlx x6'; have d6 := keepC hw' hly y6'; go_simp; try with_reducible rfl)
      simp only [List.getElem_toArray, List.getElem_cons_zero, List.getElem_cons_succ, Act.put, List.setIfInBounds_toArray, List.set_cons_zero, List.set_cons_succ]
      refine wpAnyH_take (i := 8) (v := ?v8) rfl (by kernel_rfl) (by kernel_rfl) (by kernel_rfl) (fun _ _ _ h => h) (Or.inl ⟨by rfl, ?hy8⟩) hS0 ?_
      case hy8 => (intro w' hw'; have c6 := keepC hw' hlx x6'; have d6 := keepC hw' hly y6'; go_simp; try with_reducible rfl)
      simp only [List.getElem_toArray, List.getElem_cons_zero, List.getElem_cons_succ, Act.put, List.setIfInBounds_toArray, List.set_cons_zero, List.set_cons_succ]
      refine wpAnyH_take (i := 9) rfl (by kernel_rfl) (by kernel_rfl) (by kernel_rfl) (fun _ _ _ h => h) (yieldsIf_load_mid (by rfl) 27 _ (by rfl) q (off' + k * 8) (by rfl) vs _ (fun w' hw' => Row8.below (unhide HH).2.1 hw') Try.underlying27 (by rfl) (unhide HH).2.2.2.2.2) hS0 ?_
      simp only [List.getElem_toArray, List.getElem_cons_zero, List.getElem_cons_succ, Act.put, List.setIfInBounds_toArray, List.set_cons_zero, List.set_cons_succ]
      refine rgn.one (i := 10) _ rfl (by kernel_rfl) (by rfl) ?_
      simp only [List.getElem_toArray, List.getElem_cons_zero, List.getElem_cons_succ, Act.put, List.setIfInBounds_toArray, List.set_cons_zero, List.set_cons_succ]
      go_wp2_with fail
      refine (unhide IH _ (VlC.below hS0 _ _ (unhide HH).2.2.1) (VlC.below hS0 _ _ (unhide HH).2.2.2.1)).mono ?_
      rintro e w2 ⟨rfl, b2⟩
      have hS0 : Below wr.heap.size wr w2 := hS0.trans b2
      refine ⟨hS0, ?_⟩
      refine wpAnyH_take (i := 11) (v := ?v9) rfl (by kernel_rfl) (by kernel_rfl) (by kernel_rfl) (fun _ _ _ h => h) (Or.inl ⟨by rfl, ?hy9⟩) hS0 ?_
      case hy9 => (intro w' hw';  go_simp; try with_reducible rfl)
      simp only [List.getElem_toArray, List.getElem_cons_zero, List.getElem_cons_succ, Act.put, List.setIfInBounds_toArray, List.set_cons_zero, List.set_cons_succ]
      refine wpAnyH_done (by kernel_rfl) ?_ _; refine NoPanic.normal ?_
      have b3 : Below W.heap.size W w2 := hbk.trans (hS0.mono hbk.size)
      go_wp2
      go_roundw
      case rel => exact ⟨k + 1, by omega, by go_num, b3⟩
      case measure => simp [intOf]; omega
    · have ki : ¬ (k : Int) < (ni : Int) := by omega
      go_wp2_with fail
      go_loopw [6] (fun vk wr => ∃ k : Nat, k ≤ nf ∧ vk = .int .i64 k ∧ Below W.heap.size W wr) (fun vk _ => nf - (intOf vk).toNat)
      case atStart => exact ⟨0, Nat.zero_le _, rfl, hbk⟩
      case round =>
        clear hbk x6' x7' y6' y7' ki hk hlt
        obtain ⟨k, hk, rfl, hbk⟩ := hrel
        have x7' := (hbk.cell (p := ⟨w.heap.size, 7, none⟩) (show w.heap.size < W.heap.size by omega)).trans x7
        have y7' := (hbk.cell (p := ⟨w.heap.size + 1, 7, none⟩) (show w.heap.size + 1 < W.heap.size by omega)).trans y7
        by_cases hlt : k < nf
        · have ki : (k : Int) < (nf : Int) := by omega
          obtain ⟨p, off, nm, v, us, rfl, hv, hn, -, hr, hc⟩ := FlsAt.get fls _ _ (FlsAt.below hbk fls _ _ hF) k hlt
          obtain ⟨q, off', nm', v', vs, rfl, hv', hn', -, hr', hc'⟩ := FlsAt.get fls _ _ (FlsAt.below hbk fls _ _ gF) k hlt
          obtain ⟨rfl, rfl⟩ : nm = nm' ∧ v = v' := by have := Option.some.inj (hv.symm.trans hv'); simpa using this
          have IH := hide (ihF (nm, v) (List.mem_of_getElem? hv) (hsF.all (nm, v) (List.mem_of_getElem? hv)) us vs)
          have iu : (Try.prog.info? 27).map (·.size) = some us.length := by rw [hc.cells]; exact infoV
          have iv : (Try.prog.info? 27).map (·.size) = some vs.length := by rw [hc'.cells]; exact infoV
          have hlx : w.heap.size < wr.heap.size := Nat.lt_of_lt_of_le (show w.heap.size < W.heap.size by omega) hbk.size
          have hly : w.heap.size + 1 < wr.heap.size := Nat.lt_of_lt_of_le (show w.heap.size + 1 < W.heap.size by omega) hbk.size
          have hlp := World.block_lt_of_cell? wr _ hn
          have hlq := World.block_lt_of_cell? wr _ hn'
          have HH := hide (And.intro hr (And.intro hr' (And.intro hc (And.intro hc' (And.intro iu iv)))))
          clear hr hr' hc hc' hv hv' iu iv
          go_wp2_with fail
          have hS0 : Below wr.heap.size wr { wr with drawn := wr.drawn + 1 } := (Below.refl _ _).drew
          refine wp_region_noPanic ?_
          refine wp_region_held (S := fun w' => Below wr.heap.size wr w') mixed ?_
          refine wpAnyH_take (i := 0) (v := ?v10) rfl (by kernel_rfl) (by kernel_rfl) (by kernel_rfl) (fun _ _ _ h => h) (Or.inl ⟨by rfl, ?hy10⟩) hS0 ?_
          case hy10 => (intro w' hw'; have c7 := keepC hw' hlx x7'; have d7 := keepC hw' hly y7'; have cn := keepC hw' hlp hn; have dn := keepC hw' hlq hn'; go_simp; try with_reducible rfl)
          simp only [List.getElem_toArray, List.getElem_cons_zero, List.getElem_cons_succ, Act.put, List.setIfInBounds_toArray, List.set_cons_zero, List.set_cons_succ]
          refine wpAnyH_take (i := 1) (v := ?v11) rfl (by kernel_rfl) (by kernel_rfl) (by kernel_rfl) (fun _ _ _ h => h) (Or.inl ⟨by rfl, ?hy11⟩) hS0 ?_
          case hy11 => (intro w' hw'; have c7 := keepC hw' hlx x7'; have d7 := keepC hw' hly y7'; have cn := keepC hw' hlp hn; have dn := keepC hw' hlq hn'; go_simp; try with_reducible rfl)
          simp only [List.getElem_toArray, List.getElem_cons_zero, List.getElem_cons_succ, Act.put, List.setIfInBounds_toArray, List.set_cons_zero, List.set_cons_succ]
          refine wpAnyH_take (i := 2) (v := ?v12) rfl (by kernel_rfl) (by kernel_rfl) (by kernel_rfl) (fun _ _ _ h => h) (Or.inl ⟨by rfl, ?hy12⟩) hS0 ?_
          case hy12 => (intro w' hw'; have c7 := keepC hw' hlx x7'; have d7 := keepC hw' hly y7'; have cn := keepC hw' hlp hn; have dn := keepC hw' hlq hn'; go_simp; try with_reducible rfl)
          simp only [List.getElem_toArray, List.getElem_cons_zero, List.getElem_cons_succ, Act.put, List.setIfInBounds_toArray, List.set_cons_zero, List.set_cons_succ]
          refine wpAnyH_take (i := 3) (v := ?v13) rfl (by kernel_rfl) (by kernel_rfl) (by kernel_rfl) (fun _ _ _ h => h) (Or.inl ⟨by rfl, ?hy13⟩) hS0 ?_
          case hy13 => (intro w' hw'; have c7 := keepC hw' hlx x7'; have d7 := keepC hw' hly y7'; have cn := keepC hw' hlp hn; have dn := keepC hw' hlq hn'; go_simp; try with_reducible rfl)
          simp only [List.getElem_toArray, List.getElem_cons_zero, List.getElem_cons_succ, Act.put, List.setIfInBounds_toArray, List.set_cons_zero, List.set_cons_succ]
          refine wpAnyH_take (i := 4) (v := ?v14) rfl (by kernel_rfl) (by kernel_rfl) (by kernel_rfl) (fun _ _ _ h => h) (Or.inl ⟨by rfl, ?hy14⟩) hS0 ?_
          case hy14 => (intro w' hw'; have c7 := keepC hw' hlx x7'; have d7 := keepC hw' hly y7'; have cn := keepC hw' hlp hn; have dn := keepC hw' hlq hn'; go_simp; try with_reducible rfl)
          simp only [List.getElem_toArray, List.getElem_cons_zero, List.getElem_cons_succ, Act.put, List.setIfInBounds_toArray, List.set_cons_zero, List.set_cons_succ]
          refine wpAnyH_take (i := 5) (v := ?v15) rfl (by kernel_rfl) (by kernel_rfl) (by kernel_rfl) (fun _ _ _ h => h) (Or.inl ⟨by rfl, ?hy15⟩) hS0 ?_
          case hy15 => (intro w' hw'; have c7 := keepC hw' hlx x7'; have d7 := keepC hw' hly y7'; have cn := keepC hw' hlp hn; have dn := keepC hw' hlq hn'; go_simp; try with_reducible rfl)
          simp only [List.getElem_toArray, List.getElem_cons_zero, List.getElem_cons_succ, Act.put, List.setIfInBounds_toArray, List.set_cons_zero, List.set_cons_succ]
          refine wpAnyH_take (i := 6) (v := ?v16) rfl (by kernel_rfl) (by kernel_rfl) (by kernel_rfl) (fun _ _ _ h => h) (Or.inl ⟨by rfl, ?hy16⟩) hS0 ?_
          case hy16 => (intro w' hw'; have c7 := keepC hw' hlx x7'; have d7 := keepC hw' hly y7'; have cn := keepC hw' hlp hn; have dn := keepC hw' hlq hn'; go_simp; try with_reducible rfl)
          simp only [List.getElem_toArray, List.getElem_cons_zero, List.getElem_cons_succ, Act.put, List.setIfInBounds_toArray, List.set_cons_zero, List.set_cons_succ]
          refine wpAnyH_take (i := 7) (v := ?v17) rfl (by kernel_rfl) (by kernel_rfl) (by kernel_rfl) (fun _ _ _ h => h) (Or.inl ⟨by rfl, ?hy17⟩) hS0 ?_
          case hy17 => (intro w' hw'; have c7 := keepC hw' hlx x7'; have d7 := keepC hw' hly y7'; have cn := keepC hw' hlp hn; have dn := keepC hw' hlq hn'; go_simp; try with_reducible rfl)
          simp only [List.getElem_toArray, List.getElem_cons_zero, List.getElem_cons_succ, Act.put, List.setIfInBounds_toArray, List.set_cons_zero, List.set_cons_succ]
          refine wpAnyH_take (i := 8) (v := ?v18) rfl (by kernel_rfl) (by kernel_rfl) (by kernel_rfl) (fun _ _ _ h => h) (Or.inl ⟨by rfl, ?hy18⟩) hS0 ?_
          case hy18 => (intro w' hw'; have c7 := keepC hw' hlx x7'; have d7 := keepC hw' hly y7'; have cn := keepC hw' hlp hn; have dn := keepC hw' hlq hn'; go_simp; try with_reducible rfl)
          simp only [List.getElem_toArray, List.getElem_cons_zero, List.getElem_cons_succ, Act.put, List.setIfInBounds_toArray, List.set_cons_zero, List.set_cons_succ]
          refine wpAnyH_take (i := 9) (v := ?v19) rfl (by kernel_rfl) (by kernel_rfl) (by kernel_rfl) (fun _ _ _ h => h) (Or.inl ⟨by rfl, ?hy19⟩) hS0 ?_
          case hy19 => (intro w' hw'; have c7 := keepC hw' hlx x7'; have d7 := keepC hw' hly y7'; have cn := keepC hw' hlp hn; have dn := keepC hw' hlq hn'; go_simp; try with_reducible rfl)
          simp only [List.getElem_toArray, List.getElem_cons_zero, List.getElem_cons_succ, Act.put, List.setIfInBounds_toArray, List.set_cons_zero, List.set_cons_succ]
          refine wpAnyH_take (i := 10) (v := ?v20) rfl (by kernel_rfl) (by kernel_rfl) (by kernel_rfl) (fun _ _ _ h => h) (Or.inl ⟨by rfl, ?hy20⟩) hS0 ?_
          case hy20 => (intro w' hw'; have c7 := keepC hw' hlx x7'; have d7 := keepC hw' hly y7'; have cn := keepC hw' hlp hn; have dn := keepC hw' hlq hn'; go_simp; try with_reducible rfl)
          simp only [List.getElem_toArray, List.getElem_cons_zero, List.getElem_cons_succ, Act.put, List.setIfInBounds_toArray, List.set_cons_zero, List.set_cons_succ]
          refine wpAnyH_take (i := 11) (v := ?v21) rfl (by kernel_rfl) (by kernel_rfl) (by kernel_rfl) (fun _ _ _ h => h) (Or.inl ⟨by rfl, ?hy21⟩) hS0 ?_
          case hy21 => (intro w' hw'; have c7 := keepC hw' hlx x7'; have d7 := keepC hw' hly y7'; have cn := keepC hw' hlp hn; have dn := keepC hw' hlq hn'; go_simp; try with_reducible rfl)
          simp only [List.getElem_toArray, List.getElem_cons_zero, List.getElem_cons_succ, Act.put, List.setIfInBounds_toArray, List.set_cons_zero, List.set_cons_succ]
          refine wpAnyH_take (i := 12) (v := ?v22) rfl (by kernel_rfl) (by kernel_rfl) (by kernel_rfl) (fun _ _ _ h => h) (Or.inl ⟨by rfl, ?hy22⟩) hS0 ?_
          case hy22 => (intro w' hw'; have c7 := keepC hw' hlx x7'; have d7 := keepC hw' hly y7'; have cn := keepC hw' hlp hn; have dn := keepC hw' hlq hn'; go_simp; try with_reducible rfl)
          simp only [List.getElem_toArray, List.getElem_cons_zero, List.getElem_cons_succ, Act.put, List.setIfInBounds_toArray, List.set_cons_zero, List.set_cons_succ]
          refine wpAnyH_take (i := 13) (v := ?v23) rfl (by kernel_rfl) (by kernel_rfl) (by kernel_rfl) (fun _ _ _ h => h) (Or.inl ⟨by rfl, ?hy23⟩) hS0 ?_
          case hy23 => (intro w' hw'; have c7 := keepC hw' hlx x7'; have d7 := keepC hw' hly y7'; have cn := keepC hw' hlp hn; have dn := keepC hw' hlq hn'; go_simp; try with_reducible rfl)
          simp only [List.getElem_toArray, List.getElem_cons_zero, List.getElem_cons_succ, Act.put, List.setIfInBounds_toArray, List.set_cons_zero, List.set_cons_succ]
          refine wpAnyH_take (i := 14) (v := ?v24) rfl (by kernel_rfl) (by kernel_rfl) (by kernel_rfl) (fun _ _ _ h => h) (Or.inl ⟨by rfl, ?hy24⟩) hS0 ?_
          case hy24 => (intro w' hw'; have c7 := keepC hw' hlx x7'; have d7 := keepC hw' hly y7'; have cn := keepC hw' hlp hn; have dn := keepC hw' hlq hn'; go_simp; try with_reducible rfl)
          simp only [List.getElem_toArray, List.getElem_cons_zero, List.getElem_cons_succ, Act.put, List.setIfInBounds_toArray, List.set_cons_zero, List.set_cons_succ]
          refine wpAnyH_take (i := 15) (v := ?v25) rfl (by kernel_rfl) (by kernel_rfl) (by kernel_rfl) (fun _ _ _ h => h) (Or.inl ⟨by rfl, ?hy25⟩) hS0 ?_
          case hy25 => (intro w' hw'; have c7 := keepC hw' hlx x7'; have d7 := keepC hw' hly y7'; have cn := keepC hw' hlp hn; have dn := keepC hw' hlq hn'; go_simp; try with_reducible rfl)
          simp only [List.getElem_toArray, List.getElem_cons_zero, List.getElem_cons_succ, Act.put, List.setIfInBounds_toArray, List.set_cons_zero, List.set_cons_succ]
          refine wpAnyH_take (i := 16) (v := ?v26) rfl (by kernel_rfl) (by kernel_rfl) (by kernel_rfl) (fun _ _ _ h => h) (Or.inl ⟨by rfl, ?hy26⟩) hS0 ?_
          case hy26 => (intro w' hw'; have c7 := keepC hw' hlx x7'; have d7 := keepC hw' hly y7'; have cn := keepC hw' hlp hn; have dn := keepC hw' hlq hn'; go_simp; try with_reducible rfl)
          simp only [List.getElem_toArray, List.getElem_cons_zero, List.getElem_cons_succ, Act.put, List.setIfInBounds_toArray, List.set_cons_zero, List.set_cons_succ]
          refine wpAnyH_take (i := 17) (v := ?v27) rfl (by kernel_rfl) (by kernel_rfl) (by kernel_rfl) (fun _ _ _ h => h) (Or.inl ⟨by rfl, ?hy27⟩) hS0 ?_
          case hy27 => (intro w' hw'; have c7 := keepC hw' hlx x7'; have d7 := keepC hw' hly y7'; have cn := keepC hw' hlp hn; have dn := keepC hw' hlq hn'; go_simp; try with_reducible rfl)
          simp only [List.getElem_toArray, List.getElem_cons_zero, List.getElem_cons_succ, Act.put, List.setIfInBounds_toArray, List.set_cons_zero, List.set_cons_succ]
          refine wpAnyH_take (i := 18) (v := ?v28) rfl (by kernel_rfl) (by kernel_rfl) (by kernel_rfl) (fun _ _ _ h => h) (Or.inl ⟨by rfl, ?hy28⟩) hS0 ?_
          case hy28 => (intro w' hw'; have c7 := keepC hw' hlx x7'; have d7 := keepC hw' hly y7'; have cn := keepC hw' hlp hn; have dn := keepC hw' hlq hn'; go_simp; try with_reducible rfl)
          simp only [List.getElem_toArray, List.getElem_cons_zero, List.getElem_cons_succ, Act.put, List.setIfInBounds_toArray, List.set_cons_zero, List.set_cons_succ]
          refine wpAnyH_take (i := 19) rfl (by kernel_rfl) (by kernel_rfl) (by kernel_rfl) (fun _ _ _ h => h) (yieldsIf_load_mid (by rfl) 27 _ (by rfl) p (off + k * 9 + 1) (by rfl) us _ (fun w' hw' => Row8.below (unhide HH).1 hw') Try.underlying27 (by rfl) (unhide HH).2.2.2.2.1) hS0 ?_
          simp only [List.getElem_toArray, List.getElem_cons_zero, List.getElem_cons_succ, Act.put, List.setIfInBounds_toArray, List.set_cons_zero, List.set_cons_succ]
          refine wpAnyH_take (i := 20) (v := ?v29) rfl (by kernel_rfl) (by kernel_rfl) (by kernel_rfl) (fun _ _ _ h => h) (Or.inl ⟨by rfl, ?hy29⟩) hS0 ?_
          case hy29 => (intro w' hw'; have c7 := keepC hw' hlx x7'; have d7 := keepC hw' hly y7'; have cn := keepC hw' hlp hn; have dn := keepC hw' hlq hn'; go_simp; try with_reducible rfl)
          simp only [List.getElem_toArray, List.getElem_cons_zero, List.getElem_cons_succ, Act.put, List.setIfInBounds_toArray, List.set_cons_zero, List.set_cons_succ]
          refine wpAnyH_take (i := 21) (v := ?v30) rfl (by kernel_rfl) (by kernel_rfl) (by kernel_rfl) (fun _ _ _ h => h) (Or.inl ⟨by rfl, ?hy30⟩) hS0 ?_
          case hy30 => (intro w' hw'; have c7 := keepC hw' hlx x7'; have d7 := keepC hw' hly y7'; have cn := keepC hw' hlp hn; have dn := keepC hw' hlq hn'; go_simp; try with_reducible rfl)
          simp only [List.getElem_toArray, List.getElem_cons_zero, List.getElem_cons_succ, Act.put, List.setIfInBounds_toArray, List.set_cons_zero, List.set_cons_succ]
          refine wpAnyH_take (i := 22) (v := ?v31) rfl (by kernel_rfl) (by kernel_rfl) (by kernel_rfl) (fun _ _ _ h => h) (Or.inl ⟨by rfl, ?hy31⟩) hS0 ?_
          case hy31 => (intro w' hw'; have c7 := keepC hw' hlx x7'; have d7 := keepC hw' hly y7'; have cn := keepC hw' hlp hn; have dn := keepC hw' hlq hn'; go_simp; try with_reducible rfl)
          simp only [List.getElem_toArray, List.getElem_cons_zero, List.getElem_cons_succ, Act.put, List.setIfInBounds_toArray, List.set_cons_zero, List.set_cons_succ]
          refine wpAnyH_take (i := 23) (v := ?v32) rfl (by kernel_rfl) (by kernel_rfl) (by kernel_rfl) (fun _ _ _ h => h) (Or.inl ⟨by rfl, ?hy32⟩) hS0 ?_
          case hy32 => (intro w' hw'; have c7 := keepC hw' hlx x7'; have d7 := keepC hw' hly y7'; have cn := keepC hw' hlp hn; have dn := keepC hw' hlq hn'; go_simp; try with_reducible rfl)
          simp only [List.getElem_toArray, List.getElem_cons_zero, List.getElem_cons_succ, Act.put, List.setIfInBounds_toArray, List.set_cons_zero, List.set_cons_succ]
          refine wpAnyH_take (i := 24) (v := ?v33) rfl (by kernel_rfl) (by kernel_rfl) (by kernel_rfl) (fun _ _ _ h => h) (Or.inl ⟨by rfl, ?hy33⟩) hS0 ?_
          case hy33 => (intro w' hw'; have c7 := keepC hw' hlx x7'; have d7 := keepC hw' hly y7'; have cn := keepC hw' hlp hn; have dn := keepC hw' hlq hn'; go_simp; try with_reducible rfl)
          simp only [List.getElem_toArray, List.getElem_cons_zero, List.getElem_cons_succ, Act.put, List.setIfInBounds_toArray, List.set_cons_zero, List.set_cons_succ]
          refine wpAnyH_take (i := 25) rfl (by kernel_rfl) (by kernel_rfl) (by kernel_rfl) (fun _ _ _ h => h) (yieldsIf_load_mid (by rfl) 27 _ (by rfl) q (off' + k * 9 + 1) (by rfl) vs _ (fun w' hw' => Row8.below (unhide HH).2.1 hw') Try.underlying27 (by rfl) (unhide HH).2.2.2.2.2) hS0 ?_
          simp only [List.getElem_toArray, List.getElem_cons_zero, List.getElem_cons_succ, Act.put, List.setIfInBounds_toArray, List.set_cons_zero, List.set_cons_succ]
          refine rgn.one (i := 26) _ rfl (by kernel_rfl) (by rfl) ?_
          simp only [List.getElem_toArray, List.getElem_cons_zero, List.getElem_cons_succ, Act.put, List.setIfInBounds_toArray, List.set_cons_zero, List.set_cons_succ]
          go_wp2_with fail
          refine (unhide IH _ (VlC.below hS0 _ _ (unhide HH).2.2.1) (VlC.below hS0 _ _ (unhide HH).2.2.2.1)).mono ?_
          rintro e w2 ⟨rfl, b2⟩
          have hS0 : Below wr.heap.size wr w2 := hS0.trans b2
          refine ⟨hS0, ?_⟩
          refine wpAnyH_take (i := 27) (v := ?v34) rfl (by kernel_rfl) (by kernel_rfl) (by kernel_rfl) (fun _ _ _ h => h) (Or.inl ⟨by rfl, ?hy34⟩) hS0 ?_
          case hy34 => (intro w' hw';  go_simp; try with_reducible rfl)
          simp only [List.getElem_toArray, List.getElem_cons_zero, List.getElem_cons_succ, Act.put, List.setIfInBounds_toArray, List.set_cons_zero, List.set_cons_succ]
          refine wpAnyH_take (i := 28) (v := ?v35) rfl (by kernel_rfl) (by kernel_rfl) (by kernel_rfl) (fun _ _ _ h => h) (Or.inl ⟨by rfl, ?hy35⟩) hS0 ?_
          case hy35 => (intro w' hw';  go_simp; try with_reducible rfl)
          simp only [List.getElem_toArray, List.getElem_cons_zero, List.getElem_cons_succ, Act.put, List.setIfInBounds_toArray, List.set_cons_zero, List.set_cons_succ]
          refine wpAnyH_done (by kernel_rfl) ?_ _; refine NoPanic.normal ?_
          have b3 : Below W.heap.size W w2 := hbk.trans (hS0.mono hbk.size)
          go_wp2
          go_roundw
          case rel => exact ⟨k + 1, by omega, by go_num, b3⟩
          case measure => simp [intOf]; omega
        · have ki : ¬ (k : Int) < (nf : Int) := by omega
          go_wp2
          go_ret
          exact ⟨rfl, b0.trans (hbk.mono b0.size)⟩
end Go.Proofs.Ythpcpminikmcbaa.vl
namespace Go.Proofs.Ythpcpminikmcbaa.stp
open Go.ChangeShapes Go.WideShapes Go.ChangeAt Go.RowKit
set_option linter.unusedVariables false

theorem hide {p : Prop} (h : p) : Hid p := h
theorem unhide {p : Prop} (h : Hid p) : p := h
def c3 (x t : Int) : Int := if x < t then -1 else if t < x then 1 else 0
theorem c3_lt {x t : Int} (h : x < t) : c3 x t = -1 := by simp [c3, h]
theorem c3_gt {x t : Int} (h : t < x) : c3 x t = 1 := by simp [c3, h, show ¬ x < t by omega]
theorem c3_eq {x t : Int} (h : x = t) : c3 x t = 0 := by simp [c3, h]
/-- two texts, byte by byte -/
def cB (a b : ByteArray) : Int := Lib.compareBytes a.data.toList b.data.toList
theorem cmpL_tri : ∀ a b : List UInt8, (Lib.compareBytes a b = -1 ∧ Op.bytesLess a b = true ∧ a ≠ b) ∨ (Lib.compareBytes a b = 0 ∧ Op.bytesLess a b = false ∧ a = b) ∨ (Lib.compareBytes a b = 1 ∧ Op.bytesLess a b = false ∧ a ≠ b)
  | [], [] => by simp [Lib.compareBytes, Op.bytesLess]
  | [], _ :: _ => by simp [Lib.compareBytes, Op.bytesLess]
  | _ :: _, [] => by simp [Lib.compareBytes, Op.bytesLess]
  | x :: a, y :: b => by
    have ih := cmpL_tri a b
    by_cases h1 : x < y
    · left
      refine ⟨by simp [Lib.compareBytes, h1], by simp [Op.bytesLess, h1], ?_⟩
      intro e
      simp only [List.cons.injEq] at e
      rw [e.1] at h1
      exact UInt8.lt_irrefl _ h1
    · by_cases h2 : y < x
      · right; right
        have hne : x ≠ y := fun e => by rw [e] at h2; exact UInt8.lt_irrefl _ h2
        refine ⟨by simp [Lib.compareBytes, h1, h2], by simp [Op.bytesLess, h1, hne], ?_⟩
        intro e
        simp only [List.cons.injEq] at e
        exact hne e.1
      · have e : x = y := UInt8.le_antisymm (UInt8.not_lt.1 h2) (UInt8.not_lt.1 h1)
        subst e
        simpa [Lib.compareBytes, Op.bytesLess, UInt8.lt_irrefl] using ih
theorem toList_data (a : ByteArray) : a.toList = a.data.toList := Lib.toList_data a
theorem cB_tri (a b : ByteArray) : (cB a b = -1 ∧ Op.bytesLess a.toList b.toList = true ∧ a ≠ b) ∨ (cB a b = 0 ∧ Op.bytesLess a.toList b.toList = false ∧ a = b) ∨ (cB a b = 1 ∧ Op.bytesLess a.toList b.toList = false ∧ a ≠ b) := by
  rw [toList_data, toList_data]
  have hab : a = b ↔ a.data.toList = b.data.toList := by
    constructor
    · intro e; rw [e]
    · intro e
      obtain ⟨⟨x⟩⟩ := a
      obtain ⟨⟨y⟩⟩ := b
      simp at e
      rw [e]
  rcases cmpL_tri a.data.toList b.data.toList with ⟨h1, h2, h3⟩ | ⟨h1, h2, h3⟩ | ⟨h1, h2, h3⟩
  · exact .inl ⟨h1, h2, fun e => h3 (hab.1 e)⟩
  · exact .inr (.inl ⟨h1, h2, hab.2 h3⟩)
  · exact .inr (.inr ⟨h1, h2, fun e => h3 (hab.1 e)⟩)
theorem run_cmp (a b : ByteArray) (w : World) : (callFunc 115 #[.string a, .string b]).run Try.prog w = .ok (.value (.int .i64 (cB a b))) w := by
  rw [run_callFunc_extern (e := Extern.BytealgCompare.compare) Try.func115 (by kernel_rfl) (by kernel_rfl) (by kernel_rfl) (by kernel_rfl), Lib.run_compareString]
  rfl
theorem str_cmp (a b : ByteArray) (w : World) : Calls Try.prog 66 #[.string a, .string b] w fun e w' => e = .returned (.int .i64 (cB a b)) ∧ Below w.heap.size w w' := by
  have hr := fun w => run_cmp a b w
  go_enter Try.func66, Try.ntmps66
  go_wp2
  go_ret
  exact ⟨rfl, Below.refl _ _⟩
theorem int_cmp (x t : Int) (w : World) : Calls Try.prog 106 #[.int .i64 x, .int .i64 t] w fun e w' => e = .returned (.int .i64 (c3 x t)) ∧ Below w.heap.size w w' := by
  rcases Int.lt_trichotomy x t with h | h | h
  · go_enter Try.func106, Try.ntmps106
    go_wp2
    go_ret
    exact ⟨by rw [c3_lt h]; rfl, Below.refl _ _⟩
  · go_enter Try.func106, Try.ntmps106
    go_wp2
    go_ret
    exact ⟨by rw [c3_eq (by omega)]; rfl, Below.refl _ _⟩
  · go_enter Try.func106, Try.ntmps106
    go_wp2
    go_ret
    exact ⟨by rw [c3_gt h]; rfl, Below.refl _ _⟩
/-- a step of a path -/
structure St where
  nm : ByteArray
  ix : Int
  it : Bool
def St.val (s : St) : Value := .agg #[.string s.nm, .int .i64 s.ix, .bool s.it]
/-- how two steps stand to each other -/
def cS (a b : St) : Int := if a.it = true then (if b.it = true then c3 a.ix b.ix else -1) else (if b.it = true then 1 else cB a.nm b.nm)
def pN (nm : ByteArray) (it : Bool) : ByteArray := if it = true then ⟨#[]⟩ else nm
def pI (ix : Int) (it : Bool) : Int := if it = true then ix else 0
theorem plain_any (nm : ByteArray) (ix : Int) (it : Bool) (w : World) : Calls Try.prog 44 #[.agg #[.string nm, .int .i64 ix, .bool it]] w fun e w' => e = .returned (.agg #[.string (pN nm it), .int .i64 (pI ix it), .bool it]) ∧ Below w.heap.size w w' := by
  cases it
  · go_enter Try.func44, Try.ntmps44
    go_wp2
    refine bodyPost_ret (results_cell_row rfl _ _ (w.heap.size + 1) 34 _ (0, 0) _ rfl (heap_alloc2_new _ _ _) Try.underlying34 rfl (by kernel_rfl)) rfl ?_
    exact ⟨rfl, ((Below.refl _ _).alloc (Nat.le_refl _) _).alloc (by simp) _⟩
  · go_enter Try.func44, Try.ntmps44
    go_wp2
    refine bodyPost_ret (results_cell_row rfl _ _ (w.heap.size + 1) 34 _ (0, 0) _ rfl (heap_alloc2_new _ _ _) Try.underlying34 rfl (by kernel_rfl)) rfl ?_
    exact ⟨rfl, ((Below.refl _ _).alloc (Nat.le_refl _) _).alloc (by simp) _⟩
/-- a step's three cells -/
def St3 (w : World) (b o : Nat) (nm : ByteArray) (ix : Int) (it : Bool) : Prop := w.cell? ⟨b, o, none⟩ = some (.string nm) ∧ w.cell? ⟨b, o + 1, none⟩ = some (.int .i64 ix) ∧ w.cell? ⟨b, o + 2, none⟩ = some (.bool it)
theorem St3.below {w w' : World} {b o : Nat} {nm : ByteArray} {ix : Int} {it : Bool} (h : St3 w b o nm ix it) (hb : b < w.heap.size) (hB : Below w.heap.size w w') : St3 w' b o nm ix it :=
  ⟨(hB.cell (p := ⟨b, o, none⟩) hb).trans h.1, (hB.cell (p := ⟨b, o + 1, none⟩) hb).trans h.2.1, (hB.cell (p := ⟨b, o + 2, none⟩) hb).trans h.2.2⟩
theorem two_steps (w : World) (n1 n2 : ByteArray) (x1 x2 : Int) (t1 t2 : Bool) (t : TypeId) : ∃ W, ((w.alloc (Obj.cells #[.string n1, .int .i64 x1, .bool t1] t)).alloc (Obj.cells #[.string n2, .int .i64 x2, .bool t2] t)) = W ∧ W.heap.size = w.heap.size + 2 ∧ St3 W w.heap.size 0 n1 x1 t1 ∧ St3 W (w.heap.size + 1) 0 n2 x2 t2 ∧ Below w.heap.size w W := by
  refine ⟨_, rfl, by simp, ?_, ?_, ((Below.refl _ _).alloc (Nat.le_refl _) _).alloc (by simp) _⟩
  · unfold St3; simp
  · have e : w.heap.size + 1 = (w.alloc (Obj.cells #[.string n1, .int .i64 x1, .bool t1] t)).heap.size := by simp
    unfold St3
    rw [e]
    simp
/-- are two steps one, what doesn't count struck? -/
def eqS (n1 : ByteArray) (x1 : Int) (t1 : Bool) (n2 : ByteArray) (x2 : Int) (t2 : Bool) : Bool := (pN n1 t1).toList == (pN n2 t2).toList && pI x1 t1 == pI x2 t2 && t1 == t2
theorem stood : Try.prog.stoodInHeld 34 = false := by kernel_rfl
theorem flds : Try.prog.underlying 34 = some (.struct (Try.prog.fieldsOf 34)) := by kernel_rfl
theorem run_eqStep (n1 n2 : ByteArray) (x1 x2 : Int) (t1 t2 : Bool) (w : World) : (binOp BinOp.eql 34 (.agg #[.string n1, .int .i64 x1, .bool t1]) (.agg #[.string n2, .int .i64 x2, .bool t2])).run Try.prog w = .ok (.bool (n1.toList == n2.toList && x1 == x2 && t1 == t2)) w := by
  rw [run_eql_struct, run_equalIn_agg w 9999 34 _ _ flds stood]
  simp only [Program.fieldsOf, Try.underlying34]
  simp only [Op.eqFields]
  have p0 : ∀ (a b c : Value) (w : World), (part 9 #[a, b, c] 0).run Try.prog w = .ok a w := fun a b c w => by kernel_rfl
  have p1 : ∀ (a b c : Value) (w : World), (part 3 #[a, b, c] 1).run Try.prog w = .ok b w := fun a b c w => by kernel_rfl
  have p2 : ∀ (a b c : Value) (w : World), (part 4 #[a, b, c] 2).run Try.prog w = .ok c w := fun a b c w => by kernel_rfl
  rw [if_pos (by decide)]
  simp only [Sem.run_bind, p0, Result.andThen, run_equalIn_string w 9998 9 n1 n2 Try.underlying9]
  cases n1.toList == n2.toList
  · simp
  · simp [p1, p2, run_equalIn_int w 9998 3 .i64 .i64 x1 x2 Try.underlying3, run_equalIn_bool' w 9998 4 t1 t2 Try.underlying4]
    by_cases h1 : x1 = x2
    · by_cases h2 : t1 = t2
      · simp [h1, h2]
      · simp [h1, h2]
    · simp [h1]
end Go.Proofs.Ythpcpminikmcbaa.stp
namespace Go.Proofs.Ythpcpminikmcbaa.stp
open Go.ChangeShapes Go.WideShapes Go.ChangeAt Go.RowKit
set_option linter.unusedVariables false
theorem bytes_ext {a b : ByteArray} (e : a.toList = b.toList) : a = b := by
  rw [toList_data, toList_data] at e
  obtain ⟨⟨x⟩⟩ := a
  obtain ⟨⟨y⟩⟩ := b
  simp at e
  rw [e]
theorem alike_any (n1 n2 : ByteArray) (x1 x2 : Int) (t1 t2 : Bool) (w : World) : Calls Try.prog 108 #[.agg #[.string n1, .int .i64 x1, .bool t1], .agg #[.string n2, .int .i64 x2, .bool t2]] w fun e w' => e = .returned (.bool (eqS n1 x1 t1 n2 x2 t2)) ∧ Below w.heap.size w w' := by
  have HA := plain_any n1 x1 t1
  have HB := plain_any n2 x2 t2
  have HE := run_eqStep (pN n1 t1) (pN n2 t2) (pI x1 t1) (pI x2 t2) t1 t2
  go_enter Try.func108, Try.ntmps108
  go_wp2_with fail
  obtain ⟨W, eW, sW, k1, k2, bW⟩ := two_steps w n1 n2 x1 x2 t1 t2 34
  rw [eW]
  clear eW
  obtain ⟨a0, a1, a2⟩ := k1
  obtain ⟨b0, b1, b2⟩ := k2
  have hWl : w.heap.size + 1 < W.heap.size := by omega
  go_region_with (first
      | (go_at_call 44; refine (HA _).mono ?_; clear HA; rintro e w2 ⟨rfl, hb2⟩; have k1 := St3.below ⟨a0, a1, a2⟩ (by omega) ((Below.refl _ _).drew.trans hb2); have k2 := St3.below ⟨b0, b1, b2⟩ (by omega) ((Below.refl _ _).drew.trans hb2); obtain ⟨a0', a1', a2'⟩ := k1; obtain ⟨b0', b1', b2'⟩ := k2; clear a0 a1 a2 b0 b1 b2)
      | (go_at_call 44; refine (HB _).mono ?_; clear HB; rintro e w3 ⟨rfl, hb3⟩))
  all_goals go_wp2
  all_goals go_ret
  all_goals exact ⟨rfl, bW.trans ((((Below.refl _ _).drew.trans hb2).trans (hb3.mono hb2.size)).mono (show w.heap.size ≤ W.heap.size by omega))⟩
theorem eqS_iff (n1 n2 : ByteArray) (x1 x2 : Int) (t1 t2 : Bool) : eqS n1 x1 t1 n2 x2 t2 = (cS ⟨n1, x1, t1⟩ ⟨n2, x2, t2⟩ == 0) := by
  unfold eqS cS
  cases t1
  · cases t2
    · simp [pN, pI]
      rcases cB_tri n1 n2 with ⟨h1, _, h3⟩ | ⟨h1, _, h3⟩ | ⟨h1, _, h3⟩
      · have : n1.toList ≠ n2.toList := fun e => h3 (bytes_ext e)
        simp [h1, this]
      · simp [h1, show n1.toList = n2.toList by rw [h3]]
      · have : n1.toList ≠ n2.toList := fun e => h3 (bytes_ext e)
        simp [h1, this]
    · simp [pN, pI]
  · cases t2
    · simp [pN, pI]
    · simp [pN, pI]
      rcases Int.lt_trichotomy x1 x2 with h | h | h
      · rw [c3_lt h]; simp; omega
      · rw [c3_eq h]; simp [h]
      · rw [c3_gt h]; simp; omega
theorem cS_tri (a b : St) : cS a b = -1 ∨ cS a b = 0 ∨ cS a b = 1 := by
  unfold cS
  cases a.it
  · cases b.it
    · rcases cB_tri a.nm b.nm with ⟨h, _⟩ | ⟨h, _⟩ | ⟨h, _⟩ <;> simp [h]
    · simp
  · cases b.it
    · simp
    · rcases Int.lt_trichotomy a.ix b.ix with h | h | h
      · simp [c3_lt h]
      · simp [c3_eq h]
      · simp [c3_gt h]
theorem order_any (n1 n2 : ByteArray) (x1 x2 : Int) (t1 t2 : Bool) (w : World) : Calls Try.prog 80 #[.agg #[.string n1, .int .i64 x1, .bool t1], .agg #[.string n2, .int .i64 x2, .bool t2]] w fun e w' => e = .returned (.int .i64 (cS ⟨n1, x1, t1⟩ ⟨n2, x2, t2⟩)) ∧ Below w.heap.size w w' := by
  go_enter Try.func80, Try.ntmps80
  go_wp2_with fail
  obtain ⟨W, eW, sW, k1, k2, bW⟩ := two_steps w n1 n2 x1 x2 t1 t2 34
  rw [eW]
  clear eW
  refine (alike_any n1 n2 x1 x2 t1 t2 W).mono ?_
  rintro e w2 ⟨rfl, hb2⟩
  rw [eqS_iff]
  obtain ⟨a0, a1, a2⟩ := k1.below (by omega) hb2
  obtain ⟨b0, b1, b2⟩ := k2.below (by omega) hb2
  have B2 : Below w.heap.size w w2 := bW.trans (hb2.mono (by omega))
  have s2 := hb2.size
  clear hb2 k1 k2 bW
  by_cases h0 : cS ⟨n1, x1, t1⟩ ⟨n2, x2, t2⟩ = 0
  · have h0 := hide h0
    rw [show (cS ⟨n1, x1, t1⟩ ⟨n2, x2, t2⟩ == 0) = true by simpa using unhide h0]
    go_wp2
    go_ret
    exact ⟨by rw [unhide h0]; rfl, B2⟩
  · rw [show (cS ⟨n1, x1, t1⟩ ⟨n2, x2, t2⟩ == 0) = false by simpa using h0]
    clear h0
    cases t1
    · cases t2
      · go_wp2_with fail
        refine (str_cmp n1 n2 w2).mono ?_
        rintro e w3 ⟨rfl, hb3⟩
        go_wp2
        go_ret
        exact ⟨rfl, B2.trans (hb3.mono B2.size)⟩
      · go_wp2
        go_ret
        exact ⟨rfl, B2⟩
    · cases t2
      · go_wp2
        go_ret
        exact ⟨rfl, B2⟩
      · go_wp2_with fail
        refine (int_cmp x1 x2 w2).mono ?_
        rintro e w3 ⟨rfl, hb3⟩
        go_wp2
        go_ret
        exact ⟨rfl, B2.trans (hb3.mono B2.size)⟩
end Go.Proofs.Ythpcpminikmcbaa.stp
