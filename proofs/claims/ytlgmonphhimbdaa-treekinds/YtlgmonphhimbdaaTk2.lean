import Derived.Test.YtlgmonphhimbdaaTk1
import Derived.Maps.AppendAt
import Derived.Deep.RegionHeld
import Derived.Laws.OwnMore
import Derived.Maps.Views
import Derived.Deep.AppendLies
import Derived.Deep.RegionLaw
import Derived.Deep.MidRow
import Derived.ArgAppend
namespace Go.Proofs.Ytlgmonphhimbdaa.knd
open Go.ChangeShapes Go.WideShapes Go.ChangeAt Go.RowKit Go.Maps
set_option linter.unusedVariables false
theorem ent {w w1 : World} {x y z : Value} {t : TypeId} (h : Below (w.alloc (.cells #[x, y, z] t)).heap.size (w.alloc (.cells #[x, y, z] t)) w1) : Below w.heap.size w w1 ∧ w1.cell? ⟨w.heap.size, 0, none⟩ = some x ∧ w1.cell? ⟨w.heap.size, 1, none⟩ = some y ∧ w1.cell? ⟨w.heap.size, 2, none⟩ = some z ∧ w.heap.size < w1.heap.size := by
  have b0 : Below w.heap.size w (w.alloc (.cells #[x, y, z] t)) := (Below.refl _ _).alloc (Nat.le_refl _) _
  have hs := h.size
  rw [World.size_alloc] at hs
  refine ⟨b0.trans (h.mono (by simp)), (h.cell (p := ⟨w.heap.size, 0, none⟩) (by simp)).trans (by simp), (h.cell (p := ⟨w.heap.size, 1, none⟩) (by simp)).trans (by simp), (h.cell (p := ⟨w.heap.size, 2, none⟩) (by simp)).trans (by simp), by omega⟩
theorem find_none (s : Fin 65536) (b : Nat) (w : World) (hs : True) (hb : b < w.heap.size) (c1 : w.cell? ⟨b, 1, none⟩ = some (.map none)) :
    Calls Try.prog 12 #[.pointer (some ⟨b, 0, none⟩), .agg #[.int .i8 (p0 s), .int .i8 (p1 s), .bool (p2 s)]] w fun e w' => e = .returned (.tuple #[.int .i64 0, .bool false]) ∧ Below w.heap.size w w' := by
  have hl := fun w : World => Maps.look_nil (w := w) true law Try.underlying24 (zeroE _) (key_mk2 s)
  simp only [if_true] at hl
  go_enter Try.func12, Try.ntmps12
  go_wp2_with fail
  refine (holdable_str s _).mono ?_
  rintro e w1 ⟨rfl, hb1⟩
  obtain ⟨hb1, kc0, kc1, kc2, kcl⟩ := ent hb1
  have c1' := (hb1.cell (p := ⟨b, 1, none⟩) hb).trans c1
  go_wp2_with fail
  go_region
  all_goals go_wp2
  all_goals go_ret2
  all_goals exact ⟨rfl, hb1.drew⟩
theorem find_one (s : Fin 65536) (b m : Nat) (a : Option Addr) (n cap : Nat) (k : Nat) (rs : List Rw) (D : DataW Unit) (w : World) (hs : True) (hb : b < w.heap.size) (c0 : w.cell? ⟨b, 0, none⟩ = some (.slice a n cap)) (c1 : w.cell? ⟨b, 1, none⟩ = some (.map (some m)))
    (hm : m < w.heap.size) (hown : w.ownsMap Try.prog 30 (plainElem Try.prog 3) m k D) (hR : Rws w a n rs) (hn : n ≤ 4611686018427387903) (hi : Hid (Rising rs)) :
    Calls Try.prog 12 #[.pointer (some ⟨b, 0, none⟩), .agg #[.int .i8 (p0 s), .int .i8 (p1 s), .bool (p2 s)]] w fun e w' =>
      (Maps.has D (kl s) = false ∧ e = .returned (.tuple #[.int .i64 0, .bool false]) ∧ Below w.heap.size w w') ∨
      (∃ c, Maps.has D (kl s) = true ∧ D.atKey (kl s) (.lit (.int .i64 0)) = .lit (.int .i64 c) ∧ BsPost rs n c w e w') := by
  go_enter Try.func12, Try.ntmps12
  go_wp2_with fail
  refine (holdable_str s _).mono ?_
  rintro e w1 ⟨rfl, hb1⟩
  obtain ⟨hb1, kc0, kc1, kc2, kcl⟩ := ent hb1
  have c0' := (hb1.cell (p := ⟨b, 0, none⟩) hb).trans c0
  have c1' := (hb1.cell (p := ⟨b, 1, none⟩) hb).trans c1
  have hown1 : w1.ownsMap Try.prog 30 (plainElem Try.prog 3) m k D := by
    obtain ⟨es, clock, hbk, F1, hle, hD⟩ := hown
    exact ⟨es, clock, by rw [hb1.block m hm]; exact hbk, F1, hle, hD⟩
  have hR1 := hR.below hb1.drew
  obtain ⟨v, ps, hrun, hv⟩ := hown1.drew.look_ok law Try.underlying24 (zeroE _) (plainElem_int (q := .i64) Try.underlying3 (a := 0) (by decide)) (key_mk2 s)
  obtain ⟨c, rfl, hc, hwc⟩ := plainElem_int_inv (q := .i64) Try.underlying3 hv
  have hat : D.atKey (kl s) (.lit (.int .i64 0)) = .lit (.int .i64 c) := congrArg Prod.fst hc
  have HAT := hide hat
  clear hc hat hv hown1
  cases hh : Maps.has D (kl s)
  · rw [hh] at hrun
    go_wp2_with fail
    go_region
    all_goals go_wp2
    all_goals go_ret2
    all_goals exact .inl ⟨hh, rfl, hb1.drew⟩
  · rw [hh] at hrun
    go_wp2_with fail
    go_region
    all_goals go_wp2_with fail
    all_goals refine (bs a n cap c rs w1.drew hn hR1 hi).mono ?_
    all_goals rintro e w2 ⟨i, f, q1, q2, q3, q4, rfl, hb2⟩
    all_goals have q := hide (⟨q1, q2, q3, q4⟩ : i ≤ n ∧ (∀ k (r : Rw), k < i → rs[k]? = some r → r.1 < c) ∧ (∀ k (r : Rw), i ≤ k → rs[k]? = some r → c ≤ r.1) ∧ (f = true ↔ ∃ r : Rw, rs[i]? = some r ∧ r.1 = c))
    all_goals clear q1 q2 q3 q4
    all_goals go_wp2
    all_goals go_ret2
    all_goals obtain ⟨q1, q2, q3, q4⟩ := unhide q
    all_goals exact .inr ⟨c, hh, unhide HAT, i, f, q1, q2, q3, q4, rfl, hb1.drew.trans (hb2.mono hb1.size)⟩
theorem infoR : (Try.prog.info? 52).map (fun i => (i.zero, i.size, i.bytes)) = some (some (.agg #[.int .i64 0, .int .i8 0, .int .i8 0, .bool false, .slice none 0 0]), 5, 40) := by kernel_rfl
theorem mapnil (w : World) : (binOp BinOp.eql 24 (.map none) (.map none)).run Try.prog w = .ok (.bool true) w := by kernel_rfl
theorem mapsome (m : Nat) (w : World) : (binOp BinOp.eql 24 (.map (some m)) (.map none)).run Try.prog w = .ok (.bool false) w := by kernel_rfl
theorem cs_other {w : World} {b i j : Nat} {v : Value} {o : Obj} (hb : b < w.heap.size) (h : i ≠ j) : ((w.setCell ⟨b, i, none⟩ v).alloc o).cell? ⟨b, j, none⟩ = w.cell? ⟨b, j, none⟩ :=
  (World.cell?_alloc_lt _ _ ⟨b, j, none⟩ (by simpa using hb)).trans (World.cell?_setCell_other _ _ _ _ (fun e => h (by cases e; rfl)))
theorem cs_same {w : World} {b i : Nat} {v u : Value} {o : Obj} (hb : b < w.heap.size) (h : w.cell? ⟨b, i, none⟩ = some u) : ((w.setCell ⟨b, i, none⟩ v).alloc o).cell? ⟨b, i, none⟩ = some v :=
  (World.cell?_alloc_lt _ _ ⟨b, i, none⟩ (by simpa using hb)).trans (World.cell?_setCell_same' _ _ _ (by rw [h]; rfl))
theorem fs_any {w : World} {b i j : Nat} {v : Value} {o : Obj} (hb : b ≠ w.heap.size) : ((w.setCell ⟨b, i, none⟩ v).alloc o).frozen? ⟨b, j, none⟩ = w.frozen? ⟨b, j, none⟩ :=
  (World.frozen?_alloc_old _ _ ⟨b, j, none⟩ (by simpa using hb)).trans (World.frozen?_setCell _ _ _ _)
theorem cells5 (w : World) (x y z p q : Value) (t : TypeId) : ∀ j u, [x, y, z, p, q][j]? = some u → (w.alloc (.cells #[x, y, z, p, q] t)).cell? ((⟨w.heap.size, 0, none⟩ : Addr).add j) = some u := by
  intro j u hj
  match j, hj with
  | 0, hj => simp at hj; subst hj; simp [Addr.add]
  | 1, hj => simp at hj; subst hj; simp [Addr.add]
  | 2, hj => simp at hj; subst hj; simp [Addr.add]
  | 3, hj => simp at hj; subst hj; simp [Addr.add]
  | 4, hj => simp at hj; subst hj; simp [Addr.add]
  | (j + 5), hj => simp at hj
/-- all blocks outside X stay as they are -/
structure Kx (X : Nat → Prop) (w w' : World) : Prop where
  os : w'.os = w.os
  tape : w'.tape = w.tape
  output : w'.output = w.output
  size : w.heap.size ≤ w'.heap.size
  block : ∀ k, k < w.heap.size → ¬ X k → w'.heap[k]? = w.heap[k]?
theorem Kx.refl (X : Nat → Prop) (w : World) : Kx X w w := ⟨rfl, rfl, rfl, Nat.le_refl _, fun _ _ _ => rfl⟩
theorem Kx.of_below {X : Nat → Prop} {w w' : World} (h : Below w.heap.size w w') : Kx X w w' := ⟨h.os, h.tape, h.output, h.size, fun k hk _ => h.block k hk⟩
theorem Kx.trans {X Y : Nat → Prop} {a b c : World} (h : Kx X a b) (k : Kx Y b c) (hY : ∀ i, Y i → X i ∨ a.heap.size ≤ i) : Kx X a c :=
  ⟨k.os.trans h.os, k.tape.trans h.tape, k.output.trans h.output, Nat.le_trans h.size k.size, fun i hi hx => (k.block i (Nat.lt_of_lt_of_le hi h.size) (fun hy => (hY i hy).elim hx (fun h1 => by omega))).trans (h.block i hi hx)⟩
theorem Kx.mono {X Y : Nat → Prop} {a b : World} (h : Kx X a b) (hY : ∀ i, X i → Y i) : Kx Y a b := ⟨h.os, h.tape, h.output, h.size, fun i hi hy => h.block i hi (fun hx => hy (hY i hx))⟩
theorem Kx.grown {X : Nat → Prop} {w w' : World} {row : Option Nat} (hg : w.grownBy w' row) (hr : ∀ k, row = some k → X k) : Kx X w w' :=
  ⟨hg.os, hg.tape, hg.output, hg.size, fun k hk hx => hg.block k hk (fun e => hx (hr k e.symm))⟩
theorem Kx.cell {X : Nat → Prop} {w w' : World} (h : Kx X w w') {p : Addr} (hp : p.block < w.heap.size) (hx : ¬ X p.block) : w'.cell? p = w.cell? p := World.cell?_of_block (h.block p.block hp hx)
theorem Kx.frozen {X : Nat → Prop} {w w' : World} (h : Kx X w w') {p : Addr} (hp : p.block < w.heap.size) (hx : ¬ X p.block) : w'.frozen? p = w.frozen? p := World.frozen?_of_block (h.block p.block hp hx)
theorem Kx.below {X : Nat → Prop} {w w' : World} {B : Nat} (h : Kx X w w') (hB : B ≤ w.heap.size) (hX : ∀ k, X k → B ≤ k) : Below B w w' := ⟨h.os, h.tape, h.output, h.size, fun k hk => h.block k (by omega) (fun hx => by have := hX k hx; omega)⟩
theorem Kx.setCell {X : Nat → Prop} (w : World) {p : Addr} (hp : X p.block) (u : Value) : Kx X w (w.setCell p u) :=
  ⟨rfl, rfl, rfl, by simp, fun k hk hx => Below.heap_setCell _ _ _ _ (fun e => hx (e ▸ hp))⟩
theorem heap_setCells (b : Nat) : ∀ (vs : List Value) (o : Nat) (w : World) (k : Nat), k ≠ b → (w.setCells b o vs).heap[k]? = w.heap[k]?
  | [], o, w, k, h => rfl
  | v :: vs, o, w, k, h => by rw [World.setCells, heap_setCells b vs _ _ k h]; exact Below.heap_setCell w ⟨b, o, none⟩ v k h
theorem size_setCells (b : Nat) : ∀ (vs : List Value) (o : Nat) (w : World), (w.setCells b o vs).heap.size = w.heap.size
  | [], o, w => rfl
  | v :: vs, o, w => by rw [World.setCells, size_setCells b vs]; simp
theorem same_setCells (b : Nat) : ∀ (vs : List Value) (o : Nat) (w : World), (w.setCells b o vs).os = w.os ∧ (w.setCells b o vs).tape = w.tape ∧ (w.setCells b o vs).output = w.output
  | [], o, w => ⟨rfl, rfl, rfl⟩
  | v :: vs, o, w => by rw [World.setCells]; exact same_setCells b vs _ _
theorem Kx.setCells {X : Nat → Prop} (w : World) {b : Nat} (hb : X b) (o : Nat) (vs : List Value) : Kx X w (w.setCells b o vs) :=
  ⟨(same_setCells b vs o w).1, (same_setCells b vs o w).2.1, (same_setCells b vs o w).2.2, by rw [size_setCells]; exact Nat.le_refl _, fun k hk hx => heap_setCells b vs o w k (fun e => hx (e ▸ hb))⟩
/-- what a setCell leaves of a block of cells: a block of cells -/
theorem cells_setCell {w : World} {k : Nat} (h : ∃ cs t fr, w.heap[k]? = some (Obj.cells cs t fr)) (p : Addr) (u : Value) : ∃ cs t fr, (w.setCell p u).heap[k]? = some (Obj.cells cs t fr) := by
  obtain ⟨cs, t, fr, h⟩ := h
  by_cases e : k = p.block
  · subst e
    simp [World.setCell]
    grind
  · exact ⟨cs, t, fr, (Below.heap_setCell w p u k e).trans h⟩
theorem cells_setCells {k b : Nat} : ∀ (vs : List Value) (o : Nat) (w : World), (∃ cs t fr, w.heap[k]? = some (Obj.cells cs t fr)) → ∃ cs t fr, (w.setCells b o vs).heap[k]? = some (Obj.cells cs t fr)
  | [], o, w, h => h
  | v :: vs, o, w, h => by rw [World.setCells]; exact cells_setCells vs _ _ (cells_setCell h _ _)
def encR (r : Rw) : List Value := [.int .i64 r.1, .int .i8 (p0 r.2.1), .int .i8 (p1 r.2.1), .bool (p2 r.2.1), .slice r.2.2.1 r.2.2.2.1 r.2.2.2.2]
def flat (rs : List Rw) : List Value := rs.flatMap encR
theorem flat_nil : flat [] = [] := rfl
theorem flat_cons (r : Rw) (rs : List Rw) : flat (r :: rs) = encR r ++ flat rs := by simp [flat]
theorem flat_app (a b : List Rw) : flat (a ++ b) = flat a ++ flat b := by simp [flat]
theorem flat_len : ∀ rs : List Rw, (flat rs).length = rs.length * 5
  | [] => rfl
  | r :: rs => by rw [flat_cons, List.length_append, flat_len rs]; simp [encR]; omega
theorem flat_one : ∀ (rs : List Rw), ∀ u ∈ flat rs, u.oneCell' = true
  | [], u, h => by simp [flat] at h
  | r :: rs, u, h => by
    rw [flat_cons, List.mem_append] at h
    rcases h with h | h
    · simp [encR] at h
      rcases h with rfl | rfl | rfl | rfl | rfl <;> rfl
    · exact flat_one rs u h
theorem ra_app {w : World} {g o : Nat} {xs ys : List Value} : w.rangeAt g o (xs ++ ys) ↔ w.rangeAt g o xs ∧ w.rangeAt g (o + xs.length) ys := by
  constructor
  · intro h
    refine ⟨fun j v hv => h j v ?_, fun j v hv => ?_⟩
    · rw [List.getElem?_append_left (List.getElem?_eq_some_iff.1 hv).1]; exact hv
    · have := h (xs.length + j) v (by rw [List.getElem?_append_right (by omega)]; simpa using hv)
      rwa [← Nat.add_assoc] at this
  · rintro ⟨h1, h2⟩ j v hv
    by_cases hj : j < xs.length
    · rw [List.getElem?_append_left hj] at hv; exact h1 j v hv
    · rw [List.getElem?_append_right (by omega)] at hv
      have := h2 (j - xs.length) v hv
      rwa [show o + xs.length + (j - xs.length) = o + j by omega] at this
theorem split_at {rs : List Rw} {i : Nat} {r : Rw} (h : rs[i]? = some r) : rs = rs.take i ++ r :: rs.drop (i + 1) := by
  obtain ⟨hl, e⟩ := List.getElem?_eq_some_iff.1 h
  rw [← e, ← List.drop_eq_getElem_cons hl, List.take_append_drop]
theorem ra_row {w : World} {g o : Nat} {rs : List Rw} {i : Nat} {r : Rw} (h : w.rangeAt g o (flat rs)) (hr : rs[i]? = some r) : w.rangeAt g (o + i * 5) (encR r) := by
  have hl := (List.getElem?_eq_some_iff.1 hr).1
  rw [split_at hr, flat_app, flat_cons, ra_app, ra_app] at h
  have := h.2.1
  rwa [flat_len, List.length_take, Nat.min_eq_left (by omega)] at this
theorem ra_cells {w : World} {g o : Nat} {rs : List Rw} {i : Nat} {r : Rw} (h : w.rangeAt g o (flat rs)) (hr : rs[i]? = some r) : w.cell? ⟨g, o + i * 5, none⟩ = some (.int .i64 r.1) ∧ w.cell? ⟨g, o + i * 5 + 1, none⟩ = some (.int .i8 (p0 r.2.1)) ∧ w.cell? ⟨g, o + i * 5 + 2, none⟩ = some (.int .i8 (p1 r.2.1)) ∧ w.cell? ⟨g, o + i * 5 + 3, none⟩ = some (.bool (p2 r.2.1)) ∧ w.cell? ⟨g, o + i * 5 + 4, none⟩ = some (.slice r.2.2.1 r.2.2.2.1 r.2.2.2.2) :=
  ⟨ra_row h hr 0 _ rfl, ra_row h hr 1 _ rfl, ra_row h hr 2 _ rfl, ra_row h hr 3 _ rfl, ra_row h hr 4 _ rfl⟩
theorem ra_kx {X : Nat → Prop} {w w' : World} (hk : Kx X w w') {g o : Nat} {xs : List Value} (h : w.rangeAt g o xs) (hg : g < w.heap.size) (hx : ¬ X g) : w'.rangeAt g o xs := fun j v hv => (hk.cell (p := ⟨g, o + j, none⟩) hg hx).trans (h j v hv)
theorem th_kx {X : Nat → Prop} {w w' : World} (hk : Kx X w w') {g o n : Nat} (h : w.there g o n) (hg : g < w.heap.size) (hx : ¬ X g) : w'.there g o n := fun j hj => by
  rw [hk.cell (p := ⟨g, o + j, none⟩) hg hx, hk.frozen (p := ⟨g, o + j, none⟩) hg hx]; exact h j hj
theorem ra_same {w w' : World} {g o : Nat} {xs : List Value} (e : w'.heap[g]? = w.heap[g]?) (h : w.rangeAt g o xs) : w'.rangeAt g o xs := fun j v hv => (World.cell?_of_block (a := ⟨g, o + j, none⟩) e).trans (h j v hv)
theorem th_same {w w' : World} {g o n : Nat} (e : w'.heap[g]? = w.heap[g]?) (h : w.there g o n) : w'.there g o n := fun j hj => by
  rw [World.cell?_of_block (a := ⟨g, o + j, none⟩) e, World.frozen?_of_block (a := ⟨g, o + j, none⟩) e]; exact h j hj
/-- rs lie in a slice whose spare room may be written, in a block of Y -/
def Lie (w : World) (Y : Nat → Prop) (v : Value) (rs : List Rw) : Prop :=
  ∃ a cap, v = .slice a rs.length cap ∧ rs.length ≤ cap ∧ cap ≤ maxLen ∧ ((a = none ∧ cap = 0) ∨ ∃ g off, a = some ⟨g, off, none⟩ ∧ g < w.heap.size ∧ Y g ∧ w.rangeAt g off (flat rs) ∧ w.there g off (cap * 5))
/-- what the map knows of the rows -/
structure Fits (D : DataW Unit) (rs : List Rw) : Prop where
  has : ∀ s : Fin 65536, Maps.has D (kl s) = true ↔ ∃ r ∈ rs, r.2.1 = s
  at_ : ∀ r ∈ rs, D.atKey (kl r.2.1) (.lit (.int .i64 0)) = .lit (.int .i64 r.1)
/-- a table: its own block b, its map's block M, its rows; X: all its blocks -/
structure Tb (w : World) (B : Nat) (X : Nat → Prop) (b : Nat) (M : Option Nat) (rs : List Rw) (nx : Nat) : Prop where
  lo : ∀ k, X k → B ≤ k ∧ k < w.heap.size
  dat : ∀ k, X k → M = some k ∨ ∃ cs t fr, w.heap[k]? = some (Obj.cells cs t fr)
  xb : X b
  nb : M ≠ some b
  fr : ∀ i, w.frozen? ⟨b, i, none⟩ = false
  rows : ∃ v, w.cell? ⟨b, 0, none⟩ = some v ∧ Lie w (fun k => X k ∧ k ≠ b ∧ M ≠ some k) v rs
  map : (M = none ∧ rs = [] ∧ nx = 0 ∧ w.cell? ⟨b, 0, none⟩ = some (.slice none 0 0) ∧ w.cell? ⟨b, 1, none⟩ = some (.map none)) ∨ ∃ m k D, M = some m ∧ w.cell? ⟨b, 1, none⟩ = some (.map (some m)) ∧ X m ∧ k ≤ nx ∧ w.ownsMap Try.prog 30 (plainElem (H := Unit) Try.prog 3) m k D ∧ Fits D rs
  next : w.cell? ⟨b, 2, none⟩ = some (.int .i64 (nx : Nat))
  ris : Rising rs
  lt : ∀ r ∈ rs, r.1 < (nx : Nat)
theorem own_same {w w' : World} {m k : Nat} {D : DataW Unit} (e : w'.heap[m]? = w.heap[m]?) (h : w.ownsMap Try.prog 30 (plainElem (H := Unit) Try.prog 3) m k D) : w'.ownsMap Try.prog 30 (plainElem (H := Unit) Try.prog 3) m k D := by
  obtain ⟨es, clock, hbk, F1, hle, hD⟩ := h
  exact ⟨es, clock, by rw [e]; exact hbk, F1, hle, hD⟩
theorem Lie.move {w w' : World} {Y : Nat → Prop} {v : Value} {rs : List Rw} (h : Lie w Y v rs) (hs : w.heap.size ≤ w'.heap.size) (he : ∀ k, Y k → w'.heap[k]? = w.heap[k]?) : Lie w' Y v rs := by
  obtain ⟨a, cap, e, h1, h2, h3⟩ := h
  refine ⟨a, cap, e, h1, h2, ?_⟩
  rcases h3 with h3 | ⟨g, off, ea, hg, hy, hr, ht⟩
  · exact .inl h3
  · exact .inr ⟨g, off, ea, by omega, hy, ra_same (he g hy) hr, th_same (he g hy) ht⟩
theorem Lie.mono {w : World} {Y Z : Nat → Prop} {v : Value} {rs : List Rw} (h : Lie w Y v rs) (he : ∀ k, Y k → Z k) : Lie w Z v rs := by
  obtain ⟨a, cap, e, h1, h2, h3⟩ := h
  refine ⟨a, cap, e, h1, h2, ?_⟩
  rcases h3 with h3 | ⟨g, off, ea, hg, hy, hr, ht⟩
  · exact .inl h3
  · exact .inr ⟨g, off, ea, hg, he g hy, hr, ht⟩
theorem Tb.move {w w' : World} {B : Nat} {X : Nat → Prop} {b : Nat} {M : Option Nat} {rs : List Rw} {nx : Nat} (h : Tb w B X b M rs nx) (hs : w.heap.size ≤ w'.heap.size) (he : ∀ k, X k → w'.heap[k]? = w.heap[k]?) : Tb w' B X b M rs nx := by
  have hc : ∀ i, w'.cell? ⟨b, i, none⟩ = w.cell? ⟨b, i, none⟩ := fun i => World.cell?_of_block (a := ⟨b, i, none⟩) (he b h.xb)
  refine ⟨fun k hk => ⟨(h.lo k hk).1, by have := (h.lo k hk).2; omega⟩, fun k hk => ?_, h.xb, h.nb, fun i => (World.frozen?_of_block (a := ⟨b, i, none⟩) (he b h.xb)).trans (h.fr i), ?_, ?_, (hc 2).trans h.next, h.ris, h.lt⟩
  · rw [he k hk]; exact h.dat k hk
  · obtain ⟨v, h1, h2⟩ := h.rows
    exact ⟨v, (hc 0).trans h1, h2.move hs (fun k hk => he k hk.1)⟩
  · rcases h.map with ⟨h1, h2, h3, h4, h5⟩ | ⟨m, k, D, h1, h2, h3, h4, h5, h6⟩
    · exact .inl ⟨h1, h2, h3, (hc 0).trans h4, (hc 1).trans h5⟩
    · exact .inr ⟨m, k, D, h1, (hc 1).trans h2, h3, h4, own_same (he m h3) h5, h6⟩
theorem Tb.kx {w w' : World} {B : Nat} {X Y : Nat → Prop} {b : Nat} {M : Option Nat} {rs : List Rw} {nx : Nat} (h : Tb w B X b M rs nx) (hk : Kx Y w w') (hd : ∀ k, X k → ¬ Y k) : Tb w' B X b M rs nx :=
  h.move hk.size (fun k hx => hk.block k (h.lo k hx).2 (hd k hx))
theorem Tb.below {w w' : World} {B : Nat} {X : Nat → Prop} {b : Nat} {M : Option Nat} {rs : List Rw} {nx : Nat} (h : Tb w B X b M rs nx) (hk : Below w.heap.size w w') : Tb w' B X b M rs nx :=
  h.kx (Kx.of_below (X := fun _ => False) hk) (fun _ _ h => h)
theorem Tb.rws {w : World} {B : Nat} {X : Nat → Prop} {b : Nat} {M : Option Nat} {rs : List Rw} {nx : Nat} (h : Tb w B X b M rs nx) : ∃ a cap, w.cell? ⟨b, 0, none⟩ = some (.slice a rs.length cap) ∧ Rws w a rs.length rs := by
  obtain ⟨v, h1, a, cap, rfl, h2, h3, h4⟩ := h.rows
  refine ⟨a, cap, h1, rfl, ?_⟩
  rcases h4 with ⟨rfl, rfl⟩ | ⟨g, off, rfl, hg, hy, hr, ht⟩
  · exact .inl (by omega)
  · refine .inr ⟨g, off, rfl, hg, fun i hi => ?_⟩
    obtain ⟨r, hr'⟩ : ∃ r, rs[i]? = some r := ⟨_, List.getElem?_eq_getElem hi⟩
    obtain ⟨c0, c1, c2, c3, c4⟩ := ra_cells hr hr'
    exact ⟨r, hr', c0, c1, c2, c3, c4⟩
theorem keys_apart {D : DataW Unit} {rs : List Rw} (hf : Fits D rs) (hr : Rising rs) {i j : Nat} {r q : Rw} (hi : rs[i]? = some r) (hj : rs[j]? = some q) (he : r.2.1 = q.2.1) : i = j := by
  have h1 := hf.at_ r (List.mem_of_getElem? hi)
  have h2 := hf.at_ q (List.mem_of_getElem? hj)
  rw [he, h2] at h1
  have h3 : q.1 = r.1 := by simpa using h1
  rcases Nat.lt_trichotomy i j with h | h | h
  · have := hr i j r q h hi hj; omega
  · exact h
  · have := hr j i q r h hj hi; omega
/-- append as one step of a region that draws, by its run -/
theorem step_app {P : Program} {ops : Array Oper} {o : Oper} {a : Act} {w : World} {K : Act → World → Prop} {Q : Exit → Act → World → Prop} {E : Prop}
    (hg : o.guard = none) (s x : Operand) (t t' : TypeId) (hop : o.op = Op.call { callee := Callee.builtin Builtin.append, args := #[s, x], argTypes := #[t, t'] })
    (u1 u2 : Value) (hs : a.eval s = u1) (hx : a.eval x = u2) (v' : Value) (w' : World) (hrun : (Builtin.append_ #[t, t'] o.type #[u1, u2]).run P w = .ok v' w') (hK : K (a.put o.dst v') w') :
    if Region.wanted o (yielded ops a.tmps) = true then Oper.wp P o a w K Q else E := by
  have hw : Region.wanted o (yielded ops a.tmps) = true := by simp [Region.wanted, hg]
  rw [if_pos hw]
  unfold Oper.wp
  simp [execOp, hop, resolve, invoke, builtin, hs, hx, hrun, Result.andThen]
  exact hK
theorem wpl_app {P : Program} {ops : Array Oper} {rest : List Oper} {o : Oper} {a : Act} {w : World} {Q : Exit → Act → World → Prop}
    (hg : o.guard = none) (s x : Operand) (t t' : TypeId) (hop : o.op = Op.call { callee := Callee.builtin Builtin.append, args := #[s, x], argTypes := #[t, t'] })
    (u1 u2 : Value) (hs : a.eval s = u1) (hx : a.eval x = u2) (v' : Value) (w' : World) (hrun : (Builtin.append_ #[t, t'] o.type #[u1, u2]).run P w = .ok v' w') (hK : wpList P ops Q rest (a.put o.dst v') w') :
    wpList P ops Q (o :: rest) a w := by
  refine wpList_plain hg fun K hK' => ?_
  unfold Oper.wp
  simp [execOp, hop, resolve, invoke, builtin, hs, hx, hrun, Result.andThen]
  exact hK' _ _ hK
end Go.Proofs.Ytlgmonphhimbdaa.knd
