import Derived.Test.YtjlafneklcfgoabVlR1
namespace Go.Proofs.Ytjlafneklcfgoab.vl
open Go.ChangeShapes Go.WideShapes Go.ChangeAt Go.RowKit
open stp (St Pth St3)
set_option linter.unusedVariables false
set_option linter.unusedSimpArgs false
/-- a child put into a value of the call's own -/
theorem FrC.put {lo : Nat} {w w3 : World} {v : Vl} {cs : List Value} {F : List Nat} {s : St} {i b o : Nat} {x : Vl} {ds : List Value} (h : OwC w v cs F) (hn : F.Nodup) (hF : ∀ c ∈ F, lo ≤ c ∧ c < w3.heap.size) (hi : chI v s = some i) (hl : Loc cs s i b o)
    (ha : AgreeBut F b o w w3) (hr : Row8 w3 b o ds) (hx : FrC lo w3 x ds) : FrC lo w3 (setS v s i x) cs := by
  obtain ⟨u, us, Fu, Gr, g1, g2, g3, g4, g5, g6, g7, g8⟩ := h.hole hn hi hl
  intro w' hw
  refine g8 w' x ds (fun c hc j hj => (hw c j (hF c (g6 c hc)).1 (hF c (g6 c hc)).2).trans (ha c (g6 c hc) j hj)) (fun j y hy => (hw b (o + j) (hF b (g6 b g7)).1 (hF b (g6 b g7)).2).trans (hr j y hy)) (hx w' hw)
theorem OwC.locIn {w : World} {v : Vl} {cs : List Value} {F : List Nat} {s : St} {i b o : Nat} (h : OwC w v cs F) (hn : F.Nodup) (hi : chI v s = some i) (hl : Loc cs s i b o) : b ∈ F := by
  obtain ⟨u, us, Fu, Gr, g1, g2, g3, g4, g5, g6, g7, g8⟩ := h.hole hn hi hl
  exact g6 b g7
def RSetAt (ss : List St) : Prop := ∀ (v x : Vl) (cs xs : List Value) (w : World) (ap : Option Addr) (n c : Nat), VlC w v cs → VlC w x xs → Small v → Small x → Pth w ap n ss → n ≤ c → (ap = none → c = 0) → c ≤ 4611686018427387903 →
    Calls Try.prog 14 #[.agg cs.toArray, .slice ap n c, .agg xs.toArray] w fun e w' => Below w.heap.size w w' ∧ ∃ (ok : Bool) (u : Vl) (ds : List Value), e = .returned (.tuple #[.agg ds.toArray, .bool ok]) ∧ FrC w.heap.size w' u ds ∧ (if ok = true then setP v ss x = some u else getP v ss = none ∧ u = z0)
set_option maxHeartbeats 6000000 in
set_option maxRecDepth 6000 in
theorem rset_nil : RSetAt [] := by
  intro v x cs xs w ap n c hv hx hsv hsx hp hnc hac hcb
  obtain rfl : n = 0 := by have := hp.len; simpa using this.symm
  obtain ⟨W, eW⟩ : ∃ W, W = (((w.alloc (.cells cs.toArray 27)).alloc (.cells xs.toArray 27)).alloc (.cells #[.int .i64 0, .bool false, .int .i64 0, .float .f64 0, .string { data := #[] }, .string { data := #[] }, .slice none 0 0, .slice none 0 0] 27)) := ⟨_, rfl⟩
  have bW : Below w.heap.size w W := by rw [eW]; exact (((Below.refl _ _).alloc (Nat.le_refl _) _).alloc (by simp) _).alloc (by simp; omega) _
  have hsz : W.heap.size = w.heap.size + 3 := by rw [eW]; simp
  have hrox : W.rangeAt (w.heap.size + 1) 0 xs := fun j u hu => by
    rw [Nat.zero_add, eW, World.cell?_alloc_past _ _ _ (by simp), World.cell?_alloc_at _ _ _ _ (by simp)]; simpa using hu
  have hth : W.there (w.heap.size + 2) 0 8 := by
    rw [eW]
    have h := there_new (w := (w.alloc (.cells cs.toArray 27)).alloc (.cells xs.toArray 27)) (Z := #[.int .i64 0, .bool false, .int .i64 0, .float .f64 0, .string { data := #[] }, .string { data := #[] }, .slice none 0 0, .slice none 0 0]) (t := 27) (n := 8) rfl
    simpa using h
  have iX := hide (show (Try.prog.info? 27).map (·.size) = some xs.length by rw [hx.cells]; exact infoV)
  have EW := hide eW
  have HX := hide hx
  have HR := hide hrox
  have HT := hide hth
  clear eW hrox hth hv hp hx
  go_enter Try.func14, Try.ntmps14
  go_wp2_with (first
    | refine wpList_load_mid (by rfl) 27 _ (by rfl) (w.heap.size + 1) 0 (by rfl) xs _ (by rw [← unhide EW]; exact unhide HR) Try.underlying27 (by rfl) (unhide iX) ?_)
  rw [← unhide EW]
  clear EW
  refine (rcopy_ok x hsx xs W (VlC.below bW x xs (unhide HX))).mono ?_
  rintro e w2 ⟨ds, F, rfl, hO2, hnd, hF, b2, -⟩
  have hT2 : w2.there (w.heap.size + 1 + 1) 0 ds.toArray.size := by
    rw [show ds.toArray.size = 8 by simp [(OwC.read x ds F hO2).cells]]
    exact there_below (unhide HT) b2 (by omega)
  have i8 : (Try.prog.info? 27).map (·.size) = some ds.toArray.size := by simp [(OwC.read x ds F hO2).cells, infoV]
  have d1 := (OwC.read x ds F hO2).one
  have HT2 := hide hT2
  have HI := hide i8
  have HO := hide hO2
  clear hT2 i8 hO2
  go_wp2_with (first
    | refine wpList_store_mid (by rfl) 27 _ _ (by rfl) (w.heap.size + 1 + 1) 0 ds.toArray (by rfl) (by rfl) (unhide HT2) (unhide HI) d1 ?_)
  have hr4 : (w2.setCells (w.heap.size + 1 + 1) 0 ds).rangeAt (w.heap.size + 1 + 1) 0 ds := World.rangeAt_setCells_same _ _ _ _ (unhide HT2)
  refine bodyPost_ret (rgn.result_row_tmp rfl _ _ (w.heap.size + 1 + 1) 0 ds _ rfl hr4 Try.underlying27 rfl (unhide HI)) rfl ?_
  have hnF : w.heap.size + 1 + 1 ∉ F := fun h => by have := (hF _ h).1; omega
  exact ⟨below_setCells _ _ _ _ (bW.trans (b2.mono bW.size)) (by omega), true, x, ds, rfl, FrC.of (OwC.agree x ds F (agree_setCells w2 hnF) (unhide HO)) (fun b hb => by have := hF b hb; rw [size_setCells]; omega), by rw [if_pos rfl]; rfl⟩
end Go.Proofs.Ytjlafneklcfgoab.vl
