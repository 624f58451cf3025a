import Derived.Test.YtfegalieiiaopabCw1
namespace Go.Proofs.Ytfegalieiiaopab.cu
open Go.ChangeShapes Go.WideShapes Go.ChangeAt Go.RowKit
open ints (hide unhide)
open dt (Dt Kp RowAt Ow)
set_option linter.unusedVariables false
set_option linter.unusedSimpArgs false
theorem infoAr : (Try.prog.info? 102).map (·.size) = some 10 := by kernel_rfl
theorem infoLf : (Try.prog.info? 45).map (·.size) = some 10 := by kernel_rfl
/-- a literal's cells -/
def LShape (cs : List Value) : Prop := ∃ (k : Int) (tx : ByteArray) (bl : Bool) (ai : Option Addr) (ni ci : Nat) (af : Option Addr) (nf cf : Nat) (ln co : Int), cs = [.int .i64 k, .string tx, .bool bl, .slice ai ni ci, .slice af nf cf, .int .i64 ln, .int .i64 co]
theorem leaf_shape (k : Int) (tx : ByteArray) (bl : Bool) (ln co : Int) : LShape (leafC k tx bl ln co) := ⟨k, tx, bl, none, 0, 0, none, 0, 0, ln, co, rfl⟩
structure LitPost (d : Dt) (w w' : World) (cs : List Value) (F : List Nat) : Prop where
  shape : LShape cs
  own : Ow w' d cs F
  nodup : F.Nodup
  rng : ∀ b ∈ F, w.heap.size ≤ b ∧ b < w'.heap.size
def LitAt (L : Cu → Option Dt × Cu) (ct : Bool) (c : Cu) : Prop := ∀ (B p : Nat) (w : World), CurAt w B p c → Calls Try.prog 10 #[ptr B, .bool ct] w fun e w' => ∃ cs F, e = .returned (.tuple #[.agg cs.toArray, .bool (L c).1.isSome]) ∧ LitPost ((L c).1.getD zeroD) w w' cs F ∧ CurAt w' B p (L c).2 ∧ Kp B w w'
def fldZ : Dt := fldD em zeroD 0 0
structure FldPost (d : Dt) (w w' : World) (cs : List Value) (F : List Nat) : Prop where
  shape : ∃ nm ds ln co, LShape ds ∧ cs = Value.string nm :: (ds ++ [.int .i64 ln, .int .i64 co])
  own : Ow w' d cs F
  nodup : F.Nodup
  rng : ∀ b ∈ F, w.heap.size ≤ b ∧ b < w'.heap.size
def FldAt (f : Nat) (E : Cu → Option Dt × Cu) (ct : Bool) (c : Cu) : Prop := ∀ (B p : Nat) (w : World), CurAt w B p c → Calls Try.prog f #[ptr B, .bool ct] w fun e w' => ∃ cs F, e = .returned (.tuple #[.agg cs.toArray, .bool (E c).1.isSome]) ∧ FldPost ((E c).1.getD fldZ) w w' cs F ∧ CurAt w' B p (E c).2 ∧ Kp B w w'
theorem ow_app {w : World} : ∀ (d e : Dt) (cs ds : List Value) (F G : List Nat), Ow w d cs F → Ow w e ds G → Ow w (app d e) (cs ++ ds) (F ++ G)
  | .nil, e, cs, ds, F, G, h, h' => by
    unfold Ow at h
    obtain ⟨rfl, rfl⟩ := h
    exact h'
  | .val v r, e, cs, ds, F, G, h, h' => by
    unfold Ow at h
    obtain ⟨xs, rfl, h1, h2⟩ := h
    unfold app Ow
    exact ⟨xs ++ ds, rfl, h1, ow_app r e xs ds F G h2 h'⟩
  | .lst k rs r, e, cs, ds, F, G, h, h' => by
    unfold Ow at h
    obtain ⟨a, n, c, xs, F1, F2, rfl, h1, h2, h3, h4, h5, rfl⟩ := h
    unfold app Ow
    exact ⟨a, n, c, xs ++ ds, F1, F2 ++ G, rfl, h1, h2, h3, h4, ow_app r e xs ds F2 G h5 h', by simp⟩
  | .row _ _, e, cs, ds, F, G, h, h' => by unfold Ow at h; exact h.elim
theorem pos_ow (w : World) (x y : Int) : Ow w (.val (.int .i64 x) (.val (.int .i64 y) .nil)) [.int .i64 x, .int .i64 y] [] := by
  unfold Ow
  refine ⟨_, rfl, rfl, ?_⟩
  unfold Ow
  refine ⟨_, rfl, rfl, ?_⟩
  unfold Ow
  exact ⟨rfl, rfl⟩
theorem fld_ow {w : World} {nm : ByteArray} {v : Dt} {cs : List Value} {F : List Nat} (h : Ow w v cs F) (x y : Int) : Ow w (fldD nm v x y) (.string nm :: (cs ++ [.int .i64 x, .int .i64 y])) F := by
  unfold fldD Ow
  refine ⟨_, rfl, rfl, ?_⟩
  have := ow_app v _ cs _ F [] h (pos_ow w x y)
  simpa using this
theorem ow_kp {w w' : World} {B lo : Nat} {d : Dt} {cs : List Value} {F : List Nat} (h : Ow w d cs F) (hk : Kp B w w') (hB : B < lo) (hr : ∀ b ∈ F, lo ≤ b ∧ b < w.heap.size) : Ow w' d cs F :=
  Ow.agree d cs F (fun b hb o => hk.cell (hr b hb).2 (by have := (hr b hb).1; omega)) h
theorem ow_below {w w' : World} {d : Dt} {cs : List Value} {F : List Nat} (h : Ow w d cs F) (hk : Below w.heap.size w w') (hr : ∀ b ∈ F, b < w.heap.size) : Ow w' d cs F :=
  Ow.agree d cs F (fun b hb o => hk.cell (p := ⟨b, o, none⟩) (hr b hb)) h
theorem ow_out {w : World} {d : Dt} {cs : List Value} {F : List Nat} (h : Ow w d cs F) {b : Nat} (hb : b ∉ F) (o : Nat) (vs : List Value) : Ow (w.setCells b o vs) d cs F :=
  Ow.agree d cs F (fun c hc j => dt.cell_blk (dt.heap_setCells b c (fun e => hb (e ▸ hc)) vs o w) j) h
set_option maxRecDepth 4000 in
set_option maxHeartbeats 1000000 in
theorem arg_ok (L : Cu → Option Dt × Cu) (ct : Bool) (c : Cu) (hc0 : c.Ok) (hL : LitAt L ct (c.name.want bCol)) (hdead : (L (c.name.want bCol)).1.isSome = true → c.isN = true) : FldAt 52 (argS L) ct c := by
  intro B p w h
  have hn := hide (fun W (bb : Below w.heap.size w W) => nameAny_ok B p c W (h.below bb))
  have hw := hide (fun W (hc : CurAt W B p c.name) => want_ok B p c.name bCol W hc)
  have hl := hide (fun W (hc : CurAt W B p (c.name.want bCol)) => hL B p W hc)
  have hlt := h.lt
  have hplt := h.plt
  have hne : B ≠ w.heap.size := by omega
  have hnp : p ≠ w.heap.size := by omega
  have bA := hide (fun o => show Below w.heap.size w (w.alloc o) from (Below.refl _ _).alloc (Nat.le_refl _) _)
  have hZ := hide (fun o W (hk : Kp B (w.alloc o) W) => show W.heap[w.heap.size]? = some o from (hk.block w.heap.size (by simp) (by omega)).trans (heap_alloc_new w o))
  have hs0 := hide (show (L (c.name.want bCol)).1 = none → argS L c = (none, (L (c.name.want bCol)).2) from fun e => by unfold argS; rw [e])
  have hs1 := hide (show ∀ v, (L (c.name.want bCol)).1 = some v → argS L c = (some (fldD c.tok.tx v c.tok.ln c.tok.co), (L (c.name.want bCol)).2) from fun v e => by unfold argS; rw [e])
  rw [nmT_form] at hn
  obtain ⟨U, hU⟩ : ∃ U, U = L (c.name.want bCol) := ⟨_, rfl⟩
  rw [← hU] at hl hs0 hs1 hdead
  clear h hL hU
  obtain ⟨r, C⟩ := U
  obtain ⟨A, hA⟩ : ∃ A, A = if c.isN then c.tok.tx else em := ⟨_, rfl⟩
  obtain ⟨X, hX⟩ : ∃ X, X = if c.isN then c.tok.ln else 0 := ⟨_, rfl⟩
  obtain ⟨Y, hY⟩ : ∃ Y, Y = if c.isN then c.tok.co else 0 := ⟨_, rfl⟩
  rw [← hA, ← hX, ← hY] at hn
  have HA := hide (And.intro hA (And.intro hX hY))
  clear hA hX hY
  unfold ptr at hn hw hl ⊢
  go_enter Try.func52, Try.ntmps52
  go_wp2_with fail
  refine ((unhide hn) _ ((unhide bA) _)).mono ?_
  rintro e w1 ⟨rfl, hc1, hk1⟩
  go_wp2_with fail
  refine ((unhide hw) _ (hc1.below ((Below.refl _ _).alloc (Nat.le_refl _) _))).mono ?_
  rintro e w2 ⟨rfl, hc2, hk2⟩
  go_wp2_with fail
  refine ((unhide hl) _ hc2).mono ?_
  rintro e w3 ⟨cs, F, rfl, hpo, hc3, hk3⟩
  have hB1 := hc1.lt
  have hk23 := hk2.trans hk3
  have hN3 := (hk23.block w1.heap.size (by simp) (by omega)).trans (heap_alloc_new w1 _)
  have hk13 := hk1.trans ((Kp.of ((Below.refl _ _).alloc (Nat.le_refl _) _)).trans hk23)
  have hR3 := (unhide hZ) _ w3 hk13
  have hz1 : w.heap.size < w1.heap.size := by have := hk1.size; simp at this; omega
  have hz3 : w1.heap.size < w3.heap.size := by have := hk23.size; simp at this; omega
  have HK := hide ((Kp.of ((unhide bA) _)).trans hk13)
  have HC := hide hc3
  have hrF : ∀ b ∈ F, w1.heap.size < b ∧ b < w3.heap.size := fun b hb => ⟨by have := (hpo.rng b hb).1; have := hk2.size; simp at this; omega, (hpo.rng b hb).2⟩
  obtain ⟨k, tx, bl, ai, ni, ci, af, nf, cf, ln, co, rfl⟩ := hpo.shape
  have HP := hide hpo
  have n0 : ∀ o, (w3.alloc o).cell? ⟨w1.heap.size, 0, none⟩ = some (.string A) := fun o => (dt.cell_cells ((Below.heap_alloc w3 o w1.heap.size hz3).trans hN3) 0).trans rfl
  have n1 : ∀ o, (w3.alloc o).cell? ⟨w1.heap.size, 1, none⟩ = some (.int .i64 X) := fun o => (dt.cell_cells ((Below.heap_alloc w3 o w1.heap.size hz3).trans hN3) 1).trans rfl
  have n2 : ∀ o, (w3.alloc o).cell? ⟨w1.heap.size, 2, none⟩ = some (.int .i64 Y) := fun o => (dt.cell_cells ((Below.heap_alloc w3 o w1.heap.size hz3).trans hN3) 2).trans rfl
  have HT := hide (fun o => dt.there_cells ((Below.heap_alloc w3 o w.heap.size (by omega)).trans hR3) (o := 0) (n := 10) (by decide))
  clear hn hw hl hk1 hk2 hk3 hk23 hk13 hc1 hc2 hc3 hZ bA hR3 hN3 hpo
  cases r with
  | none =>
    have hs2 := hide ((unhide hs0) rfl)
    clear hs0 hs1
    go_wp2_with (first
      | refine wpList_store_mid (by rfl) 102 _ _ (by rfl) w.heap.size 0 #[.string ⟨#[]⟩, .int .i64 0, .string ⟨#[]⟩, .bool false, .slice none 0 0, .slice none 0 0, .int .i64 0, .int .i64 0, .int .i64 0, .int .i64 0] (by rfl) (by rfl) ((unhide HT) _) infoAr (dt.one_cells (cs := [.string ⟨#[]⟩, .int .i64 0, .string ⟨#[]⟩, .bool false, .slice none 0 0, .slice none 0 0, .int .i64 0, .int .i64 0, .int .i64 0, .int .i64 0]) (by rfl)) ?_)
    refine bodyPost_ret (rgn.result_row_tmp rfl _ _ w.heap.size 0 [.string ⟨#[]⟩, .int .i64 0, .string ⟨#[]⟩, .bool false, .slice none 0 0, .slice none 0 0, .int .i64 0, .int .i64 0, .int .i64 0, .int .i64 0] _ rfl (World.rangeAt_setCells_same _ _ _ _ ((unhide HT) _)) Try.underlying102 rfl infoAr) rfl ?_
    rw [unhide hs2]
    exact ⟨_, [], rfl, ⟨⟨em, leafC 0 em false 0 0, 0, 0, leaf_shape .., rfl⟩, fld_ow (leaf_ow _ 0 em false 0 0) 0 0, List.nodup_nil, by simp⟩, ((unhide HC).below ((Below.refl _ _).alloc (Nat.le_refl _) _)).out hne hnp _ _, ((unhide HK).trans (Kp.of ((Below.refl _ _).alloc (Nat.le_refl _) _))).out (Nat.le_refl _) _ _⟩
  | some v =>
    have hs2 := hide ((unhide hs1) v rfl)
    clear hs0 hs1
    go_wp2_with (first
      | refine wpList_store_mid (by rfl) 102 _ _ (by rfl) w.heap.size 0 #[.string A, .int .i64 k, .string tx, .bool bl, .slice ai ni ci, .slice af nf cf, .int .i64 ln, .int .i64 co, .int .i64 X, .int .i64 Y] (by rfl) (by rfl) ((unhide HT) _) infoAr (dt.one_cells (cs := [.string A, .int .i64 k, .string tx, .bool bl, .slice ai ni ci, .slice af nf cf, .int .i64 ln, .int .i64 co, .int .i64 X, .int .i64 Y]) (by rfl)) ?_)
    refine bodyPost_ret (rgn.result_row_tmp rfl _ _ w.heap.size 0 [.string A, .int .i64 k, .string tx, .bool bl, .slice ai ni ci, .slice af nf cf, .int .i64 ln, .int .i64 co, .int .i64 X, .int .i64 Y] _ rfl (World.rangeAt_setCells_same _ _ _ _ ((unhide HT) _)) Try.underlying102 rfl infoAr) rfl ?_
    have hiN := hdead rfl
    have hA2 := unhide HA
    rw [hiN] at hA2
    have hown := fld_ow (nm := A) (ow_out (ow_below (unhide HP).own ((Below.refl _ _).alloc (Nat.le_refl _) (.cells #[.int .i64 k, .string tx, .bool bl, .slice ai ni ci, .slice af nf cf, .int .i64 ln, .int .i64 co] 32)) (fun b hb => (hrF b hb).2)) (b := w.heap.size) (fun hb => by have := (hrF _ hb).1; omega) 0 [.string A, .int .i64 k, .string tx, .bool bl, .slice ai ni ci, .slice af nf cf, .int .i64 ln, .int .i64 co, .int .i64 X, .int .i64 Y]) X Y
    rw [unhide hs2]
    refine ⟨_, F, rfl, ⟨⟨A, [.int .i64 k, .string tx, .bool bl, .slice ai ni ci, .slice af nf cf, .int .i64 ln, .int .i64 co], X, Y, ⟨k, tx, bl, ai, ni, ci, af, nf, cf, ln, co, rfl⟩, rfl⟩, ?_, (unhide HP).nodup, fun b hb => ⟨by have := (hrF b hb).1; omega, by rw [dt.size_setCells]; have := (hrF b hb).2; simp; omega⟩⟩, ((unhide HC).below ((Below.refl _ _).alloc (Nat.le_refl _) _)).out hne hnp _ _, ((unhide HK).trans (Kp.of ((Below.refl _ _).alloc (Nat.le_refl _) _))).out (Nat.le_refl _) _ _⟩
    show Ow _ (fldD c.tok.tx v c.tok.ln c.tok.co) _ F
    rw [show c.tok.tx = A from hA2.1.symm, show c.tok.ln = X from hA2.2.1.symm, show c.tok.co = Y from hA2.2.2.symm]
    exact hown
end Go.Proofs.Ytfegalieiiaopab.cu
