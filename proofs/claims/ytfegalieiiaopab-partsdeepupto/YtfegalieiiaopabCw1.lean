import Derived.Test.YtfegalieiiaopabCv9
namespace Go.Proofs.Ytfegalieiiaopab.cu
open Go.ChangeShapes Go.WideShapes Go.ChangeAt Go.RowKit
open ints (hide unhide)
open dt (Dt Kp RowAt Ow)
set_option linter.unusedVariables false
set_option linter.unusedSimpArgs false
theorem infoLt : (Try.prog.info? 32).map (·.size) = some 7 := by kernel_rfl
def leafC (k : Int) (tx : ByteArray) (bl : Bool) (ln co : Int) : List Value := [.int .i64 k, .string tx, .bool bl, .slice none 0 0, .slice none 0 0, .int .i64 ln, .int .i64 co]
theorem leaf_ow (w : World) (k : Int) (tx : ByteArray) (bl : Bool) (ln co : Int) : Ow w (litD k tx bl .nil .nil ln co) (leafC k tx bl ln co) [] := by
  unfold litD leafC
  simp only [Ow]
  refine ⟨_, rfl, rfl, _, rfl, rfl, _, rfl, rfl, none, 0, 0, _, [], [], rfl, Nat.le_refl _, Nat.zero_le _, fun _ => rfl, .inl ⟨rfl, by simp⟩, ⟨none, 0, 0, _, [], [], rfl, Nat.le_refl _, Nat.zero_le _, fun _ => rfl, .inl ⟨rfl, by simp⟩, ⟨_, rfl, rfl, _, rfl, rfl, rfl, rfl⟩, rfl⟩, rfl⟩
def zeroD : Dt := litD 0 em false .nil .nil 0 0
set_option maxRecDepth 4000 in
theorem leaf_ok (B p : Nat) (c : Cu) (k : Int) (tx : ByteArray) (w : World) (h : CurAt w B p c) (hm : c.ix + 1 < c.ts.length) : Calls Try.prog 19 #[ptr B, .int .i64 k, .string tx] w fun e w' =>
    e = .returned (.agg (leafC k tx false c.tok.ln c.tok.co).toArray) ∧ CurAt w' B p c.take ∧ Kp B w w' := by
  have hr := hide (fun W (bb : Below w.heap.size w W) => take_ok B p c W (h.below bb) hm)
  have hlt := h.lt
  have hplt := h.plt
  have hne : B ≠ w.heap.size := by omega
  have hnp : p ≠ w.heap.size := by omega
  have bA := hide (fun o => show Below w.heap.size w (w.alloc o) from (Below.refl _ _).alloc (Nat.le_refl _) _)
  have hZ := hide (fun o W (hk : Kp B (w.alloc o) W) => show W.heap[w.heap.size]? = some o from (hk.block w.heap.size (by simp) (by omega)).trans (heap_alloc_new w o))
  have hf2 := fld_pos c.tok
  obtain ⟨t, ht⟩ : ∃ t, t = c.tok := ⟨_, rfl⟩
  rw [← ht] at hr hf2 ⊢
  clear ht h
  unfold Tk.cells at hr
  unfold ptr at hr ⊢
  go_enter Try.func19, Try.ntmps19
  go_wp2_with fail
  refine ((unhide hr) _ ((unhide bA) _)).mono ?_
  rintro e w1 ⟨rfl, hc, hk⟩
  have hth : w1.there w.heap.size 0 7 := dt.there_cells ((unhide hZ) _ w1 hk) (by decide)
  have HK := hide ((Kp.of ((unhide bA) _)).trans hk)
  have HC := hide hc
  clear hr hk hc hZ bA
  go_wp2_with (first
    | refine wpList_store_mid (by rfl) 32 _ _ (by rfl) w.heap.size 0 #[.int .i64 k, .string tx, .bool false, .slice none 0 0, .slice none 0 0, .int .i64 t.ln, .int .i64 t.co] (by rfl) (by rfl) hth infoLt (dt.one_cells (cs := [.int .i64 k, .string tx, .bool false, .slice none 0 0, .slice none 0 0, .int .i64 t.ln, .int .i64 t.co]) (by rfl)) ?_)
  refine bodyPost_ret (rgn.result_row rfl _ _ w.heap.size 0 [.int .i64 k, .string tx, .bool false, .slice none 0 0, .slice none 0 0, .int .i64 t.ln, .int .i64 t.co] _ rfl (World.rangeAt_setCells_same _ _ _ _ hth) Try.underlying32 rfl infoLt) rfl ?_
  exact ⟨rfl, (unhide HC).out hne hnp _ _, (unhide HK).out (Nat.le_refl _) _ _⟩
/-- a word's literal -/
def wordC (t : Tk) (tx : ByteArray) : List Value := if tx = bTrue ∨ tx = bFalse then leafC 5 tx false t.ln t.co else if tx = bNull then leafC 6 em false t.ln t.co else leafC 7 tx false t.ln t.co
theorem str_lit {a : ByteArray} {l : List UInt8} (h : (⟨l.toArray⟩ : ByteArray).toList = l) : (a.toList == l) = decide (a = ⟨l.toArray⟩) := by
  rw [← str_beq, h]
theorem str_eqb {a b : ByteArray} (h : a = b) : (a.toList == b.toList) = true := by rw [str_beq]; exact decide_eq_true h
theorem str_neb {a b : ByteArray} (h : ¬ a = b) : (a.toList == b.toList) = false := by rw [str_beq]; exact decide_eq_false h
set_option maxRecDepth 4000 in
theorem word_ok (B p : Nat) (c : Cu) (tx : ByteArray) (w : World) (h : CurAt w B p c) (hm : c.ix + 1 < c.ts.length) : Calls Try.prog 20 #[ptr B, .string tx] w fun e w' =>
    e = .returned (.agg (wordC c.tok tx).toArray) ∧ CurAt w' B p c.take ∧ Kp B w w' := by
  have hr := hide (fun k s W (bb : Below w.heap.size w W) => leaf_ok B p c k s W (h.below bb) hm)
  have hlt := h.lt
  have hplt := h.plt
  have hne : B ≠ w.heap.size := by omega
  have hnp : p ≠ w.heap.size := by omega
  have bA := hide (fun o => show Below w.heap.size w (w.alloc o) from (Below.refl _ _).alloc (Nat.le_refl _) _)
  have hZ := hide (fun o W (hk : Kp B (w.alloc o) W) => show W.heap[w.heap.size]? = some o from (hk.block w.heap.size (by simp) (by omega)).trans (heap_alloc_new w o))
  obtain ⟨t, ht⟩ : ∃ t, t = c.tok := ⟨_, rfl⟩
  rw [← ht] at hr ⊢
  clear ht h
  unfold leafC at hr
  unfold ptr at hr ⊢
  by_cases h1 : tx = bTrue
  · have hW := hide (show wordC t tx = leafC 5 tx false t.ln t.co from by unfold wordC; rw [if_pos (.inl h1)])
    have e1 : (tx.toList == [116, 114, 117, 101]) = true := by rw [str_lit (by rw [ByteArray.toList_eq])]; exact decide_eq_true h1
    clear h1
    go_enter Try.func20, Try.ntmps20
    go_wp2_with fail
    refine ((unhide hr) 5 tx _ ((unhide bA) _)).mono ?_
    rintro e w1 ⟨rfl, hc, hk⟩
    have hth : w1.there w.heap.size 0 7 := dt.there_cells ((unhide hZ) _ w1 hk) (by decide)
    have HK := hide ((Kp.of ((unhide bA) _)).trans hk)
    have HC := hide hc
    clear hr hk hc hZ bA
    go_wp2_with (first
      | refine wpList_store_mid (by rfl) 32 _ _ (by rfl) w.heap.size 0 #[.int .i64 5, .string tx, .bool false, .slice none 0 0, .slice none 0 0, .int .i64 t.ln, .int .i64 t.co] (by rfl) (by rfl) hth infoLt (dt.one_cells (cs := [.int .i64 5, .string tx, .bool false, .slice none 0 0, .slice none 0 0, .int .i64 t.ln, .int .i64 t.co]) (by rfl)) ?_)
    refine bodyPost_ret (rgn.result_row rfl _ _ w.heap.size 0 [.int .i64 5, .string tx, .bool false, .slice none 0 0, .slice none 0 0, .int .i64 t.ln, .int .i64 t.co] _ rfl (World.rangeAt_setCells_same _ _ _ _ hth) Try.underlying32 rfl infoLt) rfl ?_
    exact ⟨by rw [unhide hW]; rfl, (unhide HC).out hne hnp _ _, (unhide HK).out (Nat.le_refl _) _ _⟩
  by_cases h2 : tx = bFalse
  · have hW := hide (show wordC t tx = leafC 5 tx false t.ln t.co from by unfold wordC; rw [if_pos (.inr h2)])
    have e1 : (tx.toList == [116, 114, 117, 101]) = false := by rw [str_lit (by rw [ByteArray.toList_eq])]; exact decide_eq_false h1
    have e2 : (tx.toList == [102, 97, 108, 115, 101]) = true := by rw [str_lit (by rw [ByteArray.toList_eq])]; exact decide_eq_true h2
    clear h1 h2
    go_enter Try.func20, Try.ntmps20
    go_wp2_with fail
    refine ((unhide hr) 5 tx _ ((unhide bA) _)).mono ?_
    rintro e w1 ⟨rfl, hc, hk⟩
    have hth : w1.there w.heap.size 0 7 := dt.there_cells ((unhide hZ) _ w1 hk) (by decide)
    have HK := hide ((Kp.of ((unhide bA) _)).trans hk)
    have HC := hide hc
    clear hr hk hc hZ bA
    go_wp2_with (first
      | refine wpList_store_mid (by rfl) 32 _ _ (by rfl) w.heap.size 0 #[.int .i64 5, .string tx, .bool false, .slice none 0 0, .slice none 0 0, .int .i64 t.ln, .int .i64 t.co] (by rfl) (by rfl) hth infoLt (dt.one_cells (cs := [.int .i64 5, .string tx, .bool false, .slice none 0 0, .slice none 0 0, .int .i64 t.ln, .int .i64 t.co]) (by rfl)) ?_)
    refine bodyPost_ret (rgn.result_row rfl _ _ w.heap.size 0 [.int .i64 5, .string tx, .bool false, .slice none 0 0, .slice none 0 0, .int .i64 t.ln, .int .i64 t.co] _ rfl (World.rangeAt_setCells_same _ _ _ _ hth) Try.underlying32 rfl infoLt) rfl ?_
    exact ⟨by rw [unhide hW]; rfl, (unhide HC).out hne hnp _ _, (unhide HK).out (Nat.le_refl _) _ _⟩
  have e1 : (tx.toList == [116, 114, 117, 101]) = false := by rw [str_lit (by rw [ByteArray.toList_eq])]; exact decide_eq_false h1
  have e2 : (tx.toList == [102, 97, 108, 115, 101]) = false := by rw [str_lit (by rw [ByteArray.toList_eq])]; exact decide_eq_false h2
  by_cases h3 : tx = bNull
  · have hW := hide (show wordC t tx = leafC 6 em false t.ln t.co from by unfold wordC; rw [if_neg (fun e => e.elim h1 h2), if_pos h3])
    have e3 : (tx.toList == [110, 117, 108, 108]) = true := by rw [str_lit (by rw [ByteArray.toList_eq])]; exact decide_eq_true h3
    clear h1 h2 h3
    go_enter Try.func20, Try.ntmps20
    go_wp2_with fail
    refine ((unhide hr) 6 ⟨#[]⟩ _ ((unhide bA) _)).mono ?_
    rintro e w1 ⟨rfl, hc, hk⟩
    have hth : w1.there w.heap.size 0 7 := dt.there_cells ((unhide hZ) _ w1 hk) (by decide)
    have HK := hide ((Kp.of ((unhide bA) _)).trans hk)
    have HC := hide hc
    clear hr hk hc hZ bA
    go_wp2_with (first
      | refine wpList_store_mid (by rfl) 32 _ _ (by rfl) w.heap.size 0 #[.int .i64 6, .string ⟨#[]⟩, .bool false, .slice none 0 0, .slice none 0 0, .int .i64 t.ln, .int .i64 t.co] (by rfl) (by rfl) hth infoLt (dt.one_cells (cs := [.int .i64 6, .string ⟨#[]⟩, .bool false, .slice none 0 0, .slice none 0 0, .int .i64 t.ln, .int .i64 t.co]) (by rfl)) ?_)
    refine bodyPost_ret (rgn.result_row rfl _ _ w.heap.size 0 [.int .i64 6, .string ⟨#[]⟩, .bool false, .slice none 0 0, .slice none 0 0, .int .i64 t.ln, .int .i64 t.co] _ rfl (World.rangeAt_setCells_same _ _ _ _ hth) Try.underlying32 rfl infoLt) rfl ?_
    exact ⟨by rw [unhide hW]; rfl, (unhide HC).out hne hnp _ _, (unhide HK).out (Nat.le_refl _) _ _⟩
  · have hW := hide (show wordC t tx = leafC 7 tx false t.ln t.co from by unfold wordC; rw [if_neg (fun e => e.elim h1 h2), if_neg h3])
    have e3 : (tx.toList == [110, 117, 108, 108]) = false := by rw [str_lit (by rw [ByteArray.toList_eq])]; exact decide_eq_false h3
    clear h1 h2 h3
    go_enter Try.func20, Try.ntmps20
    go_wp2_with fail
    refine ((unhide hr) 7 tx _ ((unhide bA) _)).mono ?_
    rintro e w1 ⟨rfl, hc, hk⟩
    have hth : w1.there w.heap.size 0 7 := dt.there_cells ((unhide hZ) _ w1 hk) (by decide)
    have HK := hide ((Kp.of ((unhide bA) _)).trans hk)
    have HC := hide hc
    clear hr hk hc hZ bA
    go_wp2_with (first
      | refine wpList_store_mid (by rfl) 32 _ _ (by rfl) w.heap.size 0 #[.int .i64 7, .string tx, .bool false, .slice none 0 0, .slice none 0 0, .int .i64 t.ln, .int .i64 t.co] (by rfl) (by rfl) hth infoLt (dt.one_cells (cs := [.int .i64 7, .string tx, .bool false, .slice none 0 0, .slice none 0 0, .int .i64 t.ln, .int .i64 t.co]) (by rfl)) ?_)
    refine bodyPost_ret (rgn.result_row rfl _ _ w.heap.size 0 [.int .i64 7, .string tx, .bool false, .slice none 0 0, .slice none 0 0, .int .i64 t.ln, .int .i64 t.co] _ rfl (World.rangeAt_setCells_same _ _ _ _ hth) Try.underlying32 rfl infoLt) rfl ?_
    exact ⟨by rw [unhide hW]; rfl, (unhide HC).out hne hnp _ _, (unhide HK).out (Nat.le_refl _) _ _⟩
/-- a variable -/
def varC (c : Cu) : List Value := if c.take.isN then leafC 1 c.take.tok.tx false c.tok.ln c.tok.co else leafC 0 em false 0 0
set_option maxRecDepth 4000 in
set_option maxHeartbeats 1000000 in
theorem var_ok (B p : Nat) (c : Cu) (w : World) (h : CurAt w B p c) (hm : c.ix + 1 < c.ts.length) : Calls Try.prog 22 #[ptr B] w fun e w' =>
    e = .returned (.tuple #[.agg (varC c).toArray, .bool c.take.isN]) ∧ CurAt w' B p c.take.name ∧ Kp B w w' := by
  have hr := hide (fun W (bb : Below w.heap.size w W) => take_ok B p c W (h.below bb) hm)
  have hn := hide (fun W (hc : CurAt W B p c.take) => nameAny_ok B p c.take W hc)
  have hlt := h.lt
  have hplt := h.plt
  have hne : B ≠ w.heap.size := by omega
  have hnp : p ≠ w.heap.size := by omega
  have bA := hide (fun o => show Below w.heap.size w (w.alloc o) from (Below.refl _ _).alloc (Nat.le_refl _) _)
  have hZ := hide (fun o W (hk : Kp B (w.alloc o) W) => show W.heap[w.heap.size]? = some o from (hk.block w.heap.size (by simp) (by omega)).trans (heap_alloc_new w o))
  have hV := hide (show varC c = if c.take.isN then leafC 1 c.take.tok.tx false c.tok.ln c.tok.co else leafC 0 em false 0 0 from rfl)
  rw [nmT_form] at hn
  obtain ⟨t, ht⟩ : ∃ t, t = c.tok := ⟨_, rfl⟩
  rw [← ht] at hr hV
  obtain ⟨V, hVe⟩ : ∃ V, V = varC c := ⟨_, rfl⟩
  rw [← hVe] at hV ⊢
  clear ht h hVe
  unfold Tk.cells at hr
  unfold ptr at hr hn ⊢
  obtain ⟨A, hA⟩ : ∃ A, A = if c.take.isN then c.take.tok.tx else em := ⟨_, rfl⟩
  obtain ⟨X, hX⟩ : ∃ X, X = if c.take.isN then c.take.tok.ln else 0 := ⟨_, rfl⟩
  obtain ⟨Y, hY⟩ : ∃ Y, Y = if c.take.isN then c.take.tok.co else 0 := ⟨_, rfl⟩
  rw [← hA, ← hX, ← hY] at hn
  have HA := hide hA
  clear hA hX hY
  obtain ⟨R, hR⟩ : ∃ R, R = c.take.isN := ⟨_, rfl⟩
  rw [← hR] at hn hV HA ⊢
  clear hR
  cases R
  · have hV2 := hide (show V = leafC 0 em false 0 0 from unhide hV)
    go_enter Try.func22, Try.ntmps22
    go_wp2_with fail
    refine ((unhide hr) _ ((unhide bA) _)).mono ?_
    rintro e w1 ⟨rfl, hc1, hk1⟩
    have hz1 : w.heap.size < w1.heap.size := by have := hk1.size; simp at this; omega
    go_wp2_with fail
    refine ((unhide hn) _ (hc1.below ((Below.refl _ _).alloc (Nat.le_refl _) _))).mono ?_
    rintro e w2 ⟨rfl, hc2, hk2⟩
    have hk12 := hk1.trans ((Kp.of ((Below.refl _ _).alloc (Nat.le_refl _) _)).trans hk2)
    have hR2 := (unhide hZ) _ w2 hk12
    have hz2 : w.heap.size < w2.heap.size := by have := hk2.size; simp at this; omega
    have HT := hide (fun o => dt.there_cells ((Below.heap_alloc w2 o w.heap.size hz2).trans hR2) (o := 0) (n := 7) (by decide))
    have HK := hide ((Kp.of ((unhide bA) _)).trans hk12)
    have HC := hide hc2
    clear hr hn hk1 hk2 hk12 hc1 hc2 hZ bA hR2
    go_wp2_with (first
      | refine wpList_store_mid (by rfl) 32 _ _ (by rfl) w.heap.size 0 #[.int .i64 0, .string ⟨#[]⟩, .bool false, .slice none 0 0, .slice none 0 0, .int .i64 0, .int .i64 0] (by rfl) (by rfl) ((unhide HT) _) infoLt (dt.one_cells (cs := [.int .i64 0, .string ⟨#[]⟩, .bool false, .slice none 0 0, .slice none 0 0, .int .i64 0, .int .i64 0]) (by rfl)) ?_)
    refine bodyPost_ret (rgn.result_row_tmp rfl _ _ w.heap.size 0 [.int .i64 0, .string ⟨#[]⟩, .bool false, .slice none 0 0, .slice none 0 0, .int .i64 0, .int .i64 0] _ rfl (World.rangeAt_setCells_same _ _ _ _ ((unhide HT) _)) Try.underlying32 rfl infoLt) rfl ?_
    exact ⟨by rw [unhide hV2]; rfl, ((unhide HC).below ((Below.refl _ _).alloc (Nat.le_refl _) _)).out hne hnp _ _, ((unhide HK).trans (Kp.of ((Below.refl _ _).alloc (Nat.le_refl _) _))).out (Nat.le_refl _) _ _⟩
  · have hV2 := hide (show V = leafC 1 A false t.ln t.co from by rw [unhide hV, unhide HA]; rfl)
    go_enter Try.func22, Try.ntmps22
    go_wp2_with fail
    refine ((unhide hr) _ ((unhide bA) _)).mono ?_
    rintro e w1 ⟨rfl, hc1, hk1⟩
    have hz1 : w.heap.size < w1.heap.size := by have := hk1.size; simp at this; omega
    go_wp2_with fail
    refine ((unhide hn) _ (hc1.below ((Below.refl _ _).alloc (Nat.le_refl _) _))).mono ?_
    rintro e w2 ⟨rfl, hc2, hk2⟩
    have hD2 := (hk2.block w1.heap.size (by simp) (by have := hc1.lt; omega)).trans (heap_alloc_new w1 _)
    have hk12 := hk1.trans ((Kp.of ((Below.refl _ _).alloc (Nat.le_refl _) _)).trans hk2)
    have hR2 := (unhide hZ) _ w2 hk12
    have hz2 : w.heap.size < w2.heap.size := by have := hk2.size; simp at this; omega
    have hz3 : w1.heap.size < w2.heap.size := by have := hk2.size; simp at this; omega
    have d1 : ∀ o, (w2.alloc o).cell? ⟨w1.heap.size, 1, none⟩ = some (.int .i64 t.ln) := fun o => (dt.cell_cells ((Below.heap_alloc w2 o w1.heap.size hz3).trans hD2) 1).trans rfl
    have d2 : ∀ o, (w2.alloc o).cell? ⟨w1.heap.size, 2, none⟩ = some (.int .i64 t.co) := fun o => (dt.cell_cells ((Below.heap_alloc w2 o w1.heap.size hz3).trans hD2) 2).trans rfl
    have HT := hide (fun o => dt.there_cells ((Below.heap_alloc w2 o w.heap.size hz2).trans hR2) (o := 0) (n := 7) (by decide))
    have HK := hide ((Kp.of ((unhide bA) _)).trans hk12)
    have HC := hide hc2
    clear hr hn hk1 hk2 hk12 hc1 hc2 hZ bA hR2 hD2
    go_wp2_with (first
      | refine wpList_store_mid (by rfl) 32 _ _ (by rfl) w.heap.size 0 #[.int .i64 1, .string A, .bool false, .slice none 0 0, .slice none 0 0, .int .i64 t.ln, .int .i64 t.co] (by rfl) (by rfl) ((unhide HT) _) infoLt (dt.one_cells (cs := [.int .i64 1, .string A, .bool false, .slice none 0 0, .slice none 0 0, .int .i64 t.ln, .int .i64 t.co]) (by rfl)) ?_)
    refine bodyPost_ret (rgn.result_row_tmp rfl _ _ w.heap.size 0 [.int .i64 1, .string A, .bool false, .slice none 0 0, .slice none 0 0, .int .i64 t.ln, .int .i64 t.co] _ rfl (World.rangeAt_setCells_same _ _ _ _ ((unhide HT) _)) Try.underlying32 rfl infoLt) rfl ?_
    exact ⟨by rw [unhide hV2]; rfl, ((unhide HC).below ((Below.refl _ _).alloc (Nat.le_refl _) _)).out hne hnp _ _, ((unhide HK).trans (Kp.of ((Below.refl _ _).alloc (Nat.le_refl _) _))).out (Nat.le_refl _) _ _⟩
end Go.Proofs.Ytfegalieiiaopab.cu
