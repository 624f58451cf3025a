import Derived.Test.YtjlafneklcfgoabVlR3
namespace Go.Proofs.Ytjlafneklcfgoab.vl
open Go.ChangeShapes Go.WideShapes Go.ChangeAt Go.RowKit
open stp (St Pth St3)
set_option linter.unusedVariables false
set_option linter.unusedSimpArgs false
theorem rset_ok : ∀ ss : List St, RSetAt ss
  | [] => rset_nil
  | s :: r => rset_cons s r (rset_ok r)
def numC (n : Int) : List Value := [.int .i64 2, .bool false, .int .i64 n, .float .f64 0, .string { data := #[] }, .string { data := #[] }, .slice none 0 0, .slice none 0 0]
def txtC (s : ByteArray) : List Value := [.int .i64 4, .bool false, .int .i64 0, .float .f64 0, .string s, .string { data := #[] }, .slice none 0 0, .slice none 0 0]
theorem num_ok (n : Int) (w : World) : Calls Try.prog 30 #[.int .i64 n] w fun e w' => Below w.heap.size w w' ∧ e = .returned (.agg (numC n).toArray) := by
  have hsf := storeF
  go_enter Try.func30, Try.ntmps30
  go_wp2
  refine bodyPost_ret (results_cell_row rfl _ _ w.heap.size 27 _ (0, 0) _ rfl (heap_alloc_new _ _) Try.underlying27 rfl (by kernel_rfl)) rfl ?_
  exact ⟨(Below.refl _ _).alloc (Nat.le_refl _) _, rfl⟩
theorem text_ok (s : ByteArray) (w : World) : Calls Try.prog 31 #[.string s] w fun e w' => Below w.heap.size w w' ∧ e = .returned (.agg (txtC s).toArray) := by
  have hsf := storeF
  go_enter Try.func31, Try.ntmps31
  go_wp2
  refine bodyPost_ret (results_cell_row rfl _ _ w.heap.size 27 _ (0, 0) _ rfl (heap_alloc_new _ _) Try.underlying27 rfl (by kernel_rfl)) rfl ?_
  exact ⟨(Below.refl _ _).alloc (Nat.le_refl _) _, rfl⟩
theorem build2V {w0 w0' : World} {v u : Vl} {cs ds : List Value} (h : VlC w0 v cs) (h' : VlC w0' u ds) (w : World) : (Instr.buildSlice 24 2 #[(0, .agg cs.toArray), (1, .agg ds.toArray)]).run Try.prog w = .ok (.slice (some ⟨w.heap.size, 0, none⟩) 2 2) (w.alloc (.cells (cs ++ ds).toArray 27)) := by
  cases v; cases u
  unfold VlC at h h'
  obtain ⟨_, _, _, _, _, _, rfl, -⟩ := h
  obtain ⟨_, _, _, _, _, _, rfl, -⟩ := h'
  go_simp
theorem build2M {w0 w0' : World} {v u : Vl} {cs ds : List Value} (a b : ByteArray) (h : VlC w0 v cs) (h' : VlC w0' u ds) (w : World) : (Instr.buildSlice 25 2 #[(0, .agg (Value.string a :: cs).toArray), (1, .agg (Value.string b :: ds).toArray)]).run Try.prog w = .ok (.slice (some ⟨w.heap.size, 0, none⟩) 2 2) (w.alloc (.cells ((Value.string a :: cs) ++ (Value.string b :: ds)).toArray 68)) := by
  cases v; cases u
  unfold VlC at h h'
  obtain ⟨_, _, _, _, _, _, rfl, -⟩ := h
  obtain ⟨_, _, _, _, _, _, rfl, -⟩ := h'
  go_simp
theorem wpO_build2 {P : Program} {o : Oper} {a : Act} {w w' : World} {K : Act → World → Prop} {Q : Exit → Act → World → Prop} (t : TypeId) (x y : Operand) (ho : o.op = .buildSlice t 2 #[(0, x), (1, y)]) (v u sl : Value) (hx : a.eval x = v) (hy : a.eval y = u) (hr : (Instr.buildSlice t 2 #[(0, v), (1, u)]).run P w = .ok sl w')
    (h : K (a.put o.dst sl) w') : o.wp P a w K Q := by
  unfold Oper.wp execOp
  simp only [ho, List.map_toArray, List.map_cons, List.map_nil, hx, hy, Sem.run_bind, hr, Result.andThen_ok, Sem.run_pure]
  exact h
def eS : ByteArray := { data := #[] }
def innerV : Vl := .mk 6 false 0 0 eS eS .nil (.cons { data := #[98] } z0 .nil)
def listV : Vl := .mk 5 false 0 0 eS eS (.cons (.mk 2 false 1 0 eS eS .nil .nil) (.cons innerV .nil)) .nil
def twoV : Vl := .mk 6 false 0 0 eS eS .nil (.cons { data := #[97] } listV (.cons { data := #[99] } (.mk 4 false 0 0 { data := #[120] } eS .nil .nil) .nil))
theorem numV (n : Int) (hn : (Lit.int .i64 n).wf = true) (w : World) : VlC w (.mk 2 false n 0 eS eS .nil .nil) (numC n) := by
  unfold VlC
  exact ⟨none, 0, 0, none, 0, 0, rfl, by unfold VlsAt; rfl, by unfold FlsAt; rfl, Nat.le_refl _, Nat.le_refl _, fun _ => rfl, fun _ => rfl, rfl, hn, Nat.zero_le _, Nat.zero_le _, Nat.zero_le _, Nat.zero_le _⟩
theorem txtV (s : ByteArray) (hs : s.size ≤ maxLen) (w : World) : VlC w (.mk 4 false 0 0 s eS .nil .nil) (txtC s) := by
  unfold VlC
  exact ⟨none, 0, 0, none, 0, 0, rfl, by unfold VlsAt; rfl, by unfold FlsAt; rfl, Nat.le_refl _, Nat.le_refl _, fun _ => rfl, fun _ => rfl, rfl, rfl, hs, Nat.zero_le _, Nat.zero_le _, Nat.zero_le _⟩
def innerC (b : Nat) : List Value := [.int .i64 6, .bool false, .int .i64 0, .float .f64 0, .string { data := #[] }, .string { data := #[] }, .slice none 0 0, .slice (some ⟨b, 0, none⟩) 1 1]
def listC (b : Nat) : List Value := [.int .i64 5, .bool false, .int .i64 0, .float .f64 0, .string { data := #[] }, .string { data := #[] }, .slice (some ⟨b, 0, none⟩) 2 2, .slice none 0 0]
def twoC (b : Nat) : List Value := [.int .i64 6, .bool false, .int .i64 0, .float .f64 0, .string { data := #[] }, .string { data := #[] }, .slice none 0 0, .slice (some ⟨b, 0, none⟩) 2 2]
theorem innerV_at {w : World} {b : Nat} (h : w.rangeAt b 0 (Value.string { data := #[98] } :: z8)) : VlC w innerV (innerC b) := by
  unfold innerV VlC
  refine ⟨none, 0, 0, some ⟨b, 0, none⟩, 1, 1, rfl, by unfold VlsAt; rfl, ?_, Nat.le_refl _, Nat.le_refl _, fun _ => rfl, fun e => (by cases e), rfl, rfl, Nat.zero_le _, Nat.zero_le _, Nat.zero_le _, (by decide)⟩
  unfold FlsAt
  exact ⟨b, 0, 0, z8, rfl, rfl, h 0 _ rfl, (by decide), fun j u hu => by have := h (j + 1) u (by simpa using hu); rwa [show 0 + (j + 1) = 0 + 1 + j by omega] at this, OwC.read _ _ _ (OwC.zero _), by unfold FlsAt; rfl⟩
theorem listV_at {w : World} {b c : Nat} (h : w.rangeAt b 0 (numC 1 ++ innerC c)) (hi : VlC w innerV (innerC c)) : VlC w listV (listC b) := by
  unfold listV VlC
  refine ⟨some ⟨b, 0, none⟩, 2, 2, none, 0, 0, rfl, ?_, by unfold FlsAt; rfl, Nat.le_refl _, Nat.le_refl _, fun e => (by cases e), fun _ => rfl, rfl, rfl, Nat.zero_le _, Nat.zero_le _, (by decide), Nat.zero_le _⟩
  unfold VlsAt
  refine ⟨b, 0, 1, numC 1, rfl, rfl, fun j u hu => h j u ?_, numV 1 rfl w, ?_⟩
  · rw [List.getElem?_append_left (List.getElem?_eq_some_iff.1 hu).1]; exact hu
  unfold VlsAt
  refine ⟨b, 8, 0, innerC c, rfl, rfl, fun j u hu => ?_, hi, by unfold VlsAt; rfl⟩
  have := h (8 + j) u (by rw [List.getElem?_append_right (by simp [numC])]; simpa [numC] using hu)
  rwa [show 0 + (8 + j) = 8 + j by omega] at this
theorem twoV_at {w : World} {b c : Nat} (h : w.rangeAt b 0 ((Value.string { data := #[97] } :: listC c) ++ (Value.string { data := #[99] } :: txtC { data := #[120] }))) (hl : VlC w listV (listC c)) : VlC w twoV (twoC b) := by
  unfold twoV VlC
  refine ⟨none, 0, 0, some ⟨b, 0, none⟩, 2, 2, rfl, by unfold VlsAt; rfl, ?_, Nat.le_refl _, Nat.le_refl _, fun _ => rfl, fun e => (by cases e), rfl, rfl, Nat.zero_le _, Nat.zero_le _, Nat.zero_le _, (by decide)⟩
  unfold FlsAt
  refine ⟨b, 0, 1, listC c, rfl, rfl, h 0 _ rfl, (by decide), fun j u hu => ?_, hl, ?_⟩
  · have := h (j + 1) u (by rw [List.getElem?_append_left (by have := (List.getElem?_eq_some_iff.1 hu).1; simp; omega)]; simpa using hu)
    rwa [show 0 + (j + 1) = 0 + 1 + j by omega] at this
  unfold FlsAt
  refine ⟨b, 9, 0, txtC { data := #[120] }, rfl, rfl, ?_, (by decide), fun j u hu => ?_, txtV _ (by decide) w, by unfold FlsAt; rfl⟩
  · have := h 9 (.string { data := #[99] }) rfl
    simpa using this
  · have := h (10 + j) u (by rw [List.getElem?_append_right (by simp [listC]; omega)]; simp [listC]; rw [show 10 + j - 9 = j + 1 by omega]; simpa using hu)
    rwa [show 0 + (10 + j) = 9 + 1 + j by omega] at this
theorem Small.twoV : Small twoV := by simp [vl.twoV, vl.listV, innerV, z0, Small, SmallI, SmallF, Vls.list, Fls.list]
end Go.Proofs.Ytjlafneklcfgoab.vl
