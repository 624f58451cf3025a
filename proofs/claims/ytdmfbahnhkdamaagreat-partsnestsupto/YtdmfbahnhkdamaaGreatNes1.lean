import Derived.Test.YtdmfbahnhkdamaaGreatRows
import Derived.WalkKit
import Derived.ProofKit
import Derived.OpenShut
import Derived.ShutString
import Derived.Below
import Derived.Deep.QuietTactic
import Derived.BigQuiet
import Derived.Outline
import Derived.WalkSmall
import Derived.Laws.BytesArg
import Derived.SizedLaws
import Derived.Deep.Matrix
namespace Go.Proofs.YtdmfbahnhkdamaaGreat.ints
open Go.ChangeShapes Go.WideShapes Go.ChangeAt Go.RowKit

theorem hide {p : Prop} (h : p) : Hid p := h
theorem unhide {p : Prop} (h : Hid p) : p := h
theorem within_yes (c a b : Int) (w : World) (h1 : a ≤ c) (h2 : c ≤ b) :
    Calls Tryz.prog 72 #[.int .i32 c, .int .i32 a, .int .i32 b] w fun e w' => e = .returned (.bool true) ∧ w' = w := by
  go_enter Tryz.func72, Tryz.ntmps72
  go_wp2
  go_ret
  exact ⟨rfl, rfl⟩
theorem within_no (c a b : Int) (w : World) (h : ¬ (a ≤ c ∧ c ≤ b)) :
    Calls Tryz.prog 72 #[.int .i32 c, .int .i32 a, .int .i32 b] w fun e w' => e = .returned (.bool false) ∧ w' = w := by
  by_cases h1 : a ≤ c
  · have h2 : ¬ c ≤ b := by omega
    go_enter Tryz.func72, Tryz.ntmps72
    go_wp2
    go_ret
    exact ⟨rfl, rfl⟩
  · go_enter Tryz.func72, Tryz.ntmps72
    go_wp2
    go_ret
    exact ⟨rfl, rfl⟩
theorem join_yes (a b : Int) (w : World) (h1 : 55296 ≤ a) (h2 : a ≤ 56319) (h3 : 56320 ≤ b) (h4 : b ≤ 57343) :
    Calls Tryz.prog 105 #[.int .i32 a, .int .i32 b] w fun e w' => e = .returned (.tuple #[.int .i32 (65536 + (a - 55296) * 1024 + (b - 56320)), .bool true]) ∧ w' = w := by
  go_enter Tryz.func105, Tryz.ntmps105
  go_wp2_with (go_at_call 72; refine (within_yes _ _ _ _ (by omega) (by omega)).mono ?_; rintro e w' ⟨rfl, rfl⟩)
  go_ret2
  exact ⟨rfl, rfl⟩
theorem join_no (a b : Int) (w : World) (h : ¬ (55296 ≤ a ∧ a ≤ 56319 ∧ 56320 ≤ b ∧ b ≤ 57343)) :
    Calls Tryz.prog 105 #[.int .i32 a, .int .i32 b] w fun e w' => e = .returned (.tuple #[.int .i32 0, .bool false]) ∧ w' = w := by
  by_cases h1 : 55296 ≤ a ∧ a ≤ 56319
  · have h2 : ¬ (56320 ≤ b ∧ b ≤ 57343) := by omega
    obtain ⟨h1, h3⟩ := h1
    go_enter Tryz.func105, Tryz.ntmps105
    go_wp2_with fail
    refine (within_yes _ _ _ _ h1 h3).mono ?_
    rintro e w' ⟨rfl, rfl⟩
    go_wp2_with fail
    refine (within_no _ _ _ _ h2).mono ?_
    rintro e w' ⟨rfl, rfl⟩
    go_wp2
    go_ret2
    exact ⟨rfl, rfl⟩
  · go_enter Tryz.func105, Tryz.ntmps105
    go_wp2_with fail
    refine (within_no _ _ _ _ h1).mono ?_
    rintro e w' ⟨rfl, rfl⟩
    go_wp2
    go_ret2
    exact ⟨rfl, rfl⟩
end Go.Proofs.YtdmfbahnhkdamaaGreat.ints
namespace Go.Proofs.YtdmfbahnhkdamaaGreat.mem
open Go.ChangeShapes Go.WideShapes Go.ChangeAt Go.RowKit
open ints (hide unhide)
set_option linter.unusedVariables false

/-- What is known of a slice of integers that is only read: its elements. -/
structure Row (k : IntKind) (w : World) (a : Option Addr) (n cap : Nat) (zs : List Int) : Prop where
  len : zs.length = n
  le : n ≤ cap
  nil : a = none → cap = 0
  at_ : n = 0 ∨ ∃ b off, a = some ⟨b, off, none⟩ ∧ b < w.heap.size ∧ ∀ i, i < n → w.cell? ⟨b, off + i, none⟩ = some (.int k (zs.getD i 0))

theorem Row.below {k : IntKind} {w w' : World} {a : Option Addr} {n cap : Nat} {zs : List Int} (h : Row k w a n cap zs) (hb : Below w.heap.size w w') : Row k w' a n cap zs := by
  refine ⟨h.len, h.le, h.nil, ?_⟩
  rcases h.at_ with h0 | ⟨b, off, ha, hlt, hc⟩
  · exact .inl h0
  · exact .inr ⟨b, off, ha, Nat.lt_of_lt_of_le hlt hb.size, fun i hi => (hb.cell (by exact hlt)).trans (hc i hi)⟩
theorem below_drewN {B : Nat} {w wr : World} (h : Below B w wr) (n : Nat) : Below B w (wr.drewN n) := Go.below_drewN h n
theorem Row.cells {k : IntKind} {w : World} {a : Option Addr} {n cap : Nat} {zs : List Int} (h : Row k w a n cap zs) : ∀ ad, a = some ad → ∀ j u, (zs.map (Value.int k))[j]? = some u → w.cell? (ad.add j) = some u := by
  intro ad had j u hu
  have hj : j < n := by
    have := (List.getElem?_eq_some_iff.1 hu).1
    simpa [h.len] using this
  rcases h.at_ with h0 | ⟨b, off, rfl, _, hc⟩
  · omega
  · obtain rfl := Option.some.inj had
    rw [Addr.add_lit, hc j hj]
    have e : (zs.map (Value.int k))[j]? = some (.int k (zs.getD j 0)) := by
      simp [List.getD, show j < zs.length by rw [h.len]; exact hj]
    rw [e] at hu
    exact hu
theorem own_row {k : IntKind} {w : World} {base : Nat} {e : TypeId} {v : Value} {n : Nat} {zs : List Int} (h : w.ownsRow base e 1 v n (zs.map (Value.int k))) :
    ∃ a cap, v = .slice a n cap ∧ Row k w a n cap zs := by
  obtain ⟨h1, h2⟩ := h
  have hl : zs.length = n := by simpa using h1
  rcases h2 with ⟨rfl, rfl⟩ | ⟨g, cap, cur, rfl, hg, hh, hnc, hcm, hcs, hx⟩
  · exact ⟨none, 0, rfl, hl, Nat.le_refl _, fun _ => rfl, .inl rfl⟩
  · refine ⟨_, cap, rfl, hl, hnc, (fun h => by cases h), .inr ⟨g, 0, rfl, (by rcases Nat.lt_or_ge g w.heap.size with h | h; exact h; rw [Array.getElem?_eq_none h] at hh; cases hh), fun i hi => ?_⟩⟩
    rw [World.ownsRow.cellAt (base := base) (e := e) (size := 1) (n := n) (cap := cap) (xs := zs.map (Value.int k)) ⟨h1, .inr ⟨g, cap, cur, rfl, hg, hh, hnc, hcm, hcs, hx⟩⟩ _ (by omega)]
    simp [List.getD, show i < zs.length by omega]
theorem own_below {w w' : World} {base : Nat} {e : TypeId} {size : Nat} {v : Value} {n : Nat} {xs : List Value} (h : w.ownsRow base e size v n xs) (hb : Below w.heap.size w w') : w'.ownsRow base e size v n xs := by
  obtain ⟨h1, h2⟩ := h
  refine ⟨h1, ?_⟩
  rcases h2 with h2 | ⟨g, cap, cur, hv, hg, hh, r⟩
  · exact .inl h2
  · have hl : g < w.heap.size := by rcases Nat.lt_or_ge g w.heap.size with h | h; exact h; rw [Array.getElem?_eq_none h] at hh; cases hh
    exact .inr ⟨g, cap, cur, hv, hg, (hb.block g hl).trans hh, r⟩
theorem belowNone {w w' : World} (h : w.grownBy w' none) : Below w.heap.size w w' := (Below.refl _ _).grown h (Nat.le_refl _) (fun k hk => by cases hk)
theorem info32 : (Tryz.prog.info? 21).map (fun i => (i.zero, i.size, i.bytes)) = some (some (.int .i32 0), 1, 4) := by kernel_rfl
theorem info8 : (Tryz.prog.info? 5).map (fun i => (i.zero, i.size, i.bytes)) = some (some (.int .u8 0), 1, 1) := by kernel_rfl

theorem row_string {P : Program} {w : World} {a : Option Addr} {n c : Nat} {zs : List Int} (h : Row .u8 w a n c zs) (src dst e : TypeId) (hs : P.underlying src = some (.slice e)) (he : P.underlying e = some (.int .u8)) (hd : P.underlying dst = some .string) :
    (convert src dst (.slice a n c)).run P w = .ok (.string (strOfNums zs)) w := by
  rcases h.at_ with h0 | ⟨b, off, rfl, hb, hc⟩
  · subst h0
    have hz : zs = [] := List.eq_nil_of_length_eq_zero h.len
    subst hz
    cases a with
    | none =>
      rw [run_convert_bytes_nil w src e hs he 0 c dst hd]
      rfl
    | some ad =>
      have hl : (loadCells ad 0).run P w = .ok (([] : List Int).map (Value.int .u8)).toArray w := by
        have := run_loadCells_list (P := P) w ad ([] : List Value) (fun j v hj => by simp at hj)
        simpa using this
      rw [run_convert_bytes_string w src dst e _ 0 c hs he hd, run_bytesToString w _ 0 c [] hl]
      rfl
  · exact run_convert_bytes_arg w src e hs he b off n c zs h.len hc dst hd
end Go.Proofs.YtdmfbahnhkdamaaGreat.mem
namespace Go.Proofs.YtdmfbahnhkdamaaGreat.mem
open Go.ChangeShapes Go.WideShapes Go.ChangeAt Go.RowKit
open ints (hide unhide)
set_option linter.unusedVariables false

theorem row_of_cells {k : IntKind} {w : World} {A : Option Addr} {L C : Nat} {Z : List Int} (h1 : L ≤ C) (h2 : Z.length = C) (h3 : A = none → C = 0) (h4 : ∀ a', A = some a' → ∀ c, c < C → w.cell? (a'.add c) = some (.int k (Z.getD c 0))) :
    Row k w A L C (Z.take L) := by
  refine ⟨by simp; omega, h1, h3, ?_⟩
  by_cases h0 : L = 0
  · exact .inl h0
  · right
    cases A with
    | none => have := h3 rfl; omega
    | some a' =>
      obtain ⟨b, off, spot⟩ := a'
      have hc := h4 _ rfl 0 (by omega)
      have hspot : spot = none := by simpa [Addr.add] using World.cell?_spot hc
      subst hspot
      refine ⟨b, off, rfl, ?_, fun i hi => ?_⟩
      · exact World.block_lt_of_cell? w _ hc
      · have := h4 _ rfl i (by omega)
        rw [Addr.add_lit] at this
        rw [this]
        simp [List.getD, hi]

/-- What is known of a slice of slices that is only read; N: no inner one is longer. -/
structure Rows2 (k : IntKind) (w : World) (a : Option Addr) (n N : Nat) (zss : List (List Int)) : Prop where
  len : zss.length = n
  at_ : n = 0 ∨ ∃ b off, a = some ⟨b, off, none⟩ ∧ b < w.heap.size ∧ ∀ i, i < n → ∃ ai ni ci, w.cell? ⟨b, off + i, none⟩ = some (.slice ai ni ci) ∧ Row k w ai ni ci (zss.getD i []) ∧ ni ≤ N

end Go.Proofs.YtdmfbahnhkdamaaGreat.mem
namespace Go.Proofs.YtdmfbahnhkdamaaGreat.mem
open Go.ChangeShapes Go.WideShapes Go.ChangeAt Go.RowKit
open ints (hide unhide)
set_option linter.unusedVariables false

theorem bulk_pos {H : Type} (d : DataW H) : 1 ≤ Rows.uptoBulk d := by
  cases d with
  | lit l => cases l <;> simp [Rows.uptoBulk]
  | _ => simp [Rows.uptoBulk]
theorem bulk_mem {H : Type} {d : DataW H} : ∀ {l : List (DataW H)}, d ∈ l → Rows.uptoBulk d ≤ Rows.uptoBulkAll l
  | x :: r, h => by
    simp only [Rows.uptoBulkAll]
    rcases List.mem_cons.1 h with e | e
    · subst e; omega
    · have := bulk_mem e; omega
theorem bulk_len {H : Type} : ∀ (l : List (DataW H)), l.length ≤ Rows.uptoBulkAll l
  | [] => by simp [Rows.uptoBulkAll]
  | x :: r => by
    have := bulk_len r
    have := bulk_pos x
    simp only [Rows.uptoBulkAll, List.length_cons]
    omega
theorem bulk_slice {H : Type} (e s : List (DataW H)) : e.length + s.length ≤ Rows.uptoBulk (.slice e s) := by
  have := bulk_len e
  have := bulk_len s
  simp only [Rows.uptoBulk]
  omega
theorem bulk_le {H : Type} {l : List (DataW H)} (hk : Rows.uptoSmall H l = true) : Rows.uptoBulkAll l ≤ 1048576 := of_decide_eq_true hk

theorem wf_byt {zs : List Int} (h : ∀ z ∈ zs, (Lit.int .u8 z).wf = true) : ∀ z ∈ zs, 0 ≤ z ∧ z ≤ 255 := fun z hz => by
  simpa [Lit.wf, IntKind.min, IntKind.max, IntKind.signed, IntKind.bits] using h z hz

/-- The reading of a slice of integers, opened, its length bounded by its bulk. -/
theorem row_of {H : Type} {enc : TypeId × Value → H} {P : Program} {w : World} {base : Nat} {held : Bool} {t q : TypeId} {k : IntKind} {fuel : Nat} {a0 : Option Addr} {len0 cap0 : Nat} {d : DataW H} {p : List MemPlace}
    (ht : P.underlying t = some (.slice q)) (hq : P.underlying q = some (.int k)) (cq : P.cellsOf q = 1)
    (h : DataW.trod enc P w base (fun _ => true) held fuel t [.slice a0 len0 cap0] = some (d, p)) :
    ∃ zs, Row k w a0 len0 cap0 zs ∧ (∀ z ∈ zs, (Lit.int k z).wf = true) ∧ len0 ≤ Rows.uptoBulk d := by
  rcases open_ints ht hq cq h with ⟨hcs, _⟩ | ⟨x, l, c, zs, hcs, _, hl, hm, hz, hx, hcell, hwz⟩
  · simp at hcs
    obtain ⟨rfl, rfl, rfl⟩ := hcs
    exact ⟨[], ⟨rfl, Nat.le_refl _, fun _ => rfl, .inl rfl⟩, by simp, Nat.zero_le _⟩
  · simp at hcs
    obtain ⟨rfl, rfl, rfl⟩ := hcs
    simp only [if_true] at hz
    simp only [Prod.mk.injEq] at hx
    refine ⟨zs.take len0, row_of_cells hl hz (fun e => by cases e) (fun a' ha c hc => ?_), fun z hz' => hwz z (List.mem_of_mem_take hz'), ?_⟩
    · obtain rfl := Option.some.inj ha
      exact hcell c (by rw [hz]; exact hc)
    · rw [hx.1]
      refine Nat.le_trans ?_ (bulk_slice _ _)
      simp [lits]
      omega

end Go.Proofs.YtdmfbahnhkdamaaGreat.mem
namespace Go.Proofs.YtdmfbahnhkdamaaGreat.mem
open Go.ChangeShapes Go.WideShapes Go.ChangeAt Go.RowKit
set_option linter.unusedVariables false
theorem bulk_agg {H : Type} {d : DataW H} {l : List (DataW H)} (h : d ∈ l) : Rows.uptoBulk d ≤ Rows.uptoBulk (.agg l) := by
  have := bulk_mem h
  simp only [Rows.uptoBulk]
  omega
theorem slice_form {H : Type} {enc : TypeId × Value → H} {P : Program} {w : World} {base : Nat} {held : Bool} {t q : TypeId} {k : IntKind} {fuel : Nat} {v : Value} {y : DataW H × List MemPlace}
    (ht : P.underlying t = some (.slice q)) (hq : P.underlying q = some (.int k)) (cq : P.cellsOf q = 1) (h : DataW.trod enc P w base (fun _ => true) held fuel t [v] = some y) : ∃ a n c, v = .slice a n c := by
  rcases open_ints ht hq cq h with ⟨hcs, _⟩ | ⟨x, l, c, zs, hcs, _⟩
  · simp at hcs
    exact ⟨_, _, _, hcs⟩
  · simp at hcs
    exact ⟨_, _, _, hcs⟩
theorem struct3 {H : Type} {enc : TypeId × Value → H} {w : World} {base : Nat} {held : Bool} {P : Program} {spare : Nat → Bool} {t : TypeId} {f0 f1 f2 : Field} {fuel : Nat} {cs : List Value} {x : DataW H × List MemPlace} (ht : P.underlying t = some (.struct #[f0, f1, f2])) (h : DataW.trod enc P w base spare held fuel t cs = some x) :
    ∃ x0 x1 x2 n, fuel = n + 1 ∧ x.1 = .agg [x0.1, x1.1, x2.1] ∧ cs.length = P.cellsOf t ∧
      DataW.trod enc P w base spare held n f0.type ((cs.drop f0.offset).take (P.cellsOf f0.type)) = some x0 ∧
      DataW.trod enc P w base spare held n f1.type ((cs.drop f1.offset).take (P.cellsOf f1.type)) = some x1 ∧
      DataW.trod enc P w base spare held n f2.type ((cs.drop f2.offset).take (P.cellsOf f2.type)) = some x2 := by
  obtain ⟨xs, n, hfu, hx, hl, hlen, hf⟩ := DataW.trod_struct ht h
  match xs, hlen with
  | [x0, x1, x2], _ => exact ⟨x0, x1, x2, n, hfu, by rw [hx]; rfl, hl, by simpa using hf 0 f0 rfl, by simpa using hf 1 f1 rfl, by simpa using hf 2 f2 rfl⟩
theorem list_three {α : Type} {l : List α} (h : l.length = 3) : ∃ x y z, l = [x, y, z] := by
  match l, h with
  | [x, y, z], _ => exact ⟨x, y, z, rfl⟩
set_option maxRecDepth 4000 in
theorem source_of {H : Type} {enc : TypeId × Value → H} {w : World} {base : Nat} {held : Bool} {fuel : Nat} {cs : List Value} {d : DataW H} {p : List MemPlace}
    (h : DataW.trod enc Tryz.prog w base (fun _ => true) held fuel 24 cs = some (d, p)) :
    ∃ a n c ct x zs, cs = [.slice a n c, .bool ct, .int .i64 x] ∧ Row .u8 w a n c zs ∧ (∀ z ∈ zs, (Lit.int .u8 z).wf = true) ∧ n ≤ Rows.uptoBulk d ∧ (Lit.int .i64 x).wf = true := by
  have ce0 : Tryz.prog.cellsOf 22 = 1 := by kernel_rfl
  have ce1 : Tryz.prog.cellsOf 4 = 1 := by kernel_rfl
  have ce2 : Tryz.prog.cellsOf 3 = 1 := by kernel_rfl
  have ce : Tryz.prog.cellsOf 24 = 3 := by kernel_rfl
  obtain ⟨x0, x1, x2, n, rfl, hx, hl, h0, h1, h2⟩ := struct3 Tryz.underlying24 h
  rw [ce] at hl
  obtain ⟨v0, v1, v2, rfl⟩ := list_three hl
  simp only [ce0, ce1, ce2, List.drop_zero, List.drop_succ_cons, List.take_succ_cons, List.take_zero] at h0 h1 h2
  obtain ⟨a, len, cap, rfl⟩ := slice_form Tryz.underlying22 Tryz.underlying5 (by kernel_rfl) h0
  obtain ⟨d0, p0⟩ := x0
  obtain ⟨zs, hrow, hwf, hb⟩ := row_of Tryz.underlying22 Tryz.underlying5 (by kernel_rfl) h0
  obtain ⟨b, hb1, _⟩ := DataW.trod_bool Tryz.underlying4 h1
  obtain ⟨x, hx1, _, hxw⟩ := DataW.trod_int Tryz.underlying3 h2
  simp at hb1 hx1
  subst hb1 hx1
  refine ⟨a, len, cap, b, x, zs, rfl, hrow, hwf, ?_, hxw⟩
  simp only at hx
  rw [hx]
  exact Nat.le_trans hb (bulk_agg (by simp))
end Go.Proofs.YtdmfbahnhkdamaaGreat.mem
namespace Go.Proofs.YtdmfbahnhkdamaaGreat.mem
set_option linter.unusedVariables false

/-- A sign stands at a place. -/
def isAt (l : List Int) (p : Nat) (c : Int) : Bool := decide (p < l.length) && (l.getD p 0 == c)
def digB (c : Int) : Bool := decide (48 ≤ c) && decide (c ≤ 57)
def digAt (l : List Int) (p : Nat) : Bool := decide (p < l.length) && digB (l.getD p 0)
def digsF (l : List Int) : Nat → Nat → Nat
  | 0, p => p
  | f + 1, p => if digAt l p then digsF l f (p + 1) else p
/-- The place behind the digits from p on. -/
def digs (l : List Int) (p : Nat) : Nat := digsF l (l.length - p) p
theorem digAt_lt {l : List Int} {p : Nat} (h : digAt l p = true) : p < l.length := by
  unfold digAt at h
  simp only [Bool.and_eq_true, decide_eq_true_eq] at h
  exact h.1
theorem isAt_lt {l : List Int} {p : Nat} {c : Int} (h : isAt l p c = true) : p < l.length := by
  unfold isAt at h
  simp only [Bool.and_eq_true, decide_eq_true_eq] at h
  exact h.1
theorem digs_yes {l : List Int} {p : Nat} (h : digAt l p = true) : digs l p = digs l (p + 1) := by
  have hl := digAt_lt h
  unfold digs
  rw [show l.length - p = (l.length - (p + 1)) + 1 by omega]
  simp only [digsF, h, if_true]
theorem digs_no {l : List Int} {p : Nat} (h : digAt l p = false) : digs l p = p := by
  unfold digs
  cases l.length - p with
  | zero => rfl
  | succ f => simp only [digsF, h]; rfl
theorem digsF_le (l : List Int) (f p : Nat) : p ≤ digsF l f p ∧ digsF l f p ≤ p + f := by
  induction f generalizing p with
  | zero => simp [digsF]
  | succ f ih =>
    simp only [digsF]
    split
    · have := ih (p + 1); omega
    · omega
theorem digs_le (l : List Int) (p : Nat) : p ≤ digs l p ∧ (p ≤ l.length → digs l p ≤ l.length) := by
  have := digsF_le l (l.length - p) p
  unfold digs
  omega
theorem digs_pos {l : List Int} {p : Nat} (h : digAt l p = true) : p + 1 ≤ digs l p := by
  rw [digs_yes h]; exact (digs_le l (p + 1)).1
theorem digs_end {l : List Int} {p : Nat} : digAt l (digs l p) = false := by
  unfold digs
  generalize hf : l.length - p = f
  induction f generalizing p with
  | zero =>
    unfold digsF digAt
    have : ¬ p < l.length := by omega
    simp [this]
  | succ f ih =>
    simp only [digsF]
    cases h : digAt l p
    · simpa using h
    · simpa using ih (p := p + 1) (by omega)

/-- The program. -/
def bWhole (l : List Int) (p : Nat) : Nat := if isAt l p 48 then p + 1 else digs l p
def bPart (l : List Int) (p first : Nat) : Nat × Nat := if first = p then (p, p) else if digs l first = first then (p, digs l first) else (digs l first, digs l first)
def bPoint (l : List Int) (p : Nat) : Nat := if isAt l p 46 then p + 1 else p
def bMark (l : List Int) (p : Nat) : Nat := if isAt l p 101 = false ∧ isAt l p 69 = false then p else if isAt l (p + 1) 43 = true ∨ isAt l (p + 1) 45 = true then p + 2 else p + 1
def pfxFirst (l : List Int) (p : Nat) : Nat := if isAt l p 45 then p + 1 else p
def pfxR (l : List Int) (e : Nat) : Nat × Nat :=
  if (bPart l e (bPoint l e)).1 = (bPart l e (bPoint l e)).2 then bPart l (bPart l e (bPoint l e)).1 (bMark l (bPart l e (bPoint l e)).1) else bPart l e (bPoint l e)
def pfx (l : List Int) (p : Nat) : Nat × Nat × Int :=
  if bWhole l (pfxFirst l p) = pfxFirst l p then (p, pfxFirst l p, 0)
  else ((pfxR l (bWhole l (pfxFirst l p))).1, (pfxR l (bWhole l (pfxFirst l p))).2, if (pfxR l (bWhole l (pfxFirst l p))).1 > bWhole l (pfxFirst l p) then 2 else 1)

/-- The reference. -/
def stepZ (st c : Int) : Int :=
  if st = 0 ∨ st = 1 then (if c = 45 ∧ st = 0 then 1 else if c = 48 then 2 else if digB c then 3 else -1)
  else if st = 2 ∨ st = 3 then (if digB c ∧ st = 3 then 3 else if c = 46 then 4 else if c = 101 ∨ c = 69 then 6 else -1)
  else if st = 4 then (if digB c then 5 else -1)
  else if st = 5 then (if digB c then 5 else if c = 101 ∨ c = 69 then 6 else -1)
  else if st = 6 then (if digB c then 8 else if c = 43 ∨ c = 45 then 7 else -1)
  else if st = 7 ∨ st = 8 then (if digB c then 8 else -1)
  else -1
def formZ (st : Int) : Int := if st = 2 ∨ st = 3 then 1 else if st = 5 ∨ st = 8 then 2 else 0
def runF (l : List Int) : Nat → Int → Nat → Int → Nat → Nat × Nat × Int
  | 0, _, e, f, _ => (e, l.length, f)
  | m + 1, st, e, f, k =>
    if stepZ st (l.getD k 0) < 0 then (e, k, f)
    else if formZ (stepZ st (l.getD k 0)) ≠ 0 then runF l m (stepZ st (l.getD k 0)) (k + 1) (formZ (stepZ st (l.getD k 0))) (k + 1)
    else runF l m (stepZ st (l.getD k 0)) e f (k + 1)
def run (l : List Int) (st : Int) (e : Nat) (f : Int) (k : Nat) : Nat × Nat × Int := runF l (l.length - k) st e f k
theorem run_end {l : List Int} {k : Nat} (h : ¬ k < l.length) (st : Int) (e : Nat) (f : Int) : run l st e f k = (e, l.length, f) := by
  unfold run
  rw [show l.length - k = 0 by omega]
  rfl
theorem run_bad {l : List Int} {k : Nat} (h : k < l.length) {st : Int} (hs : stepZ st (l.getD k 0) < 0) (e : Nat) (f : Int) : run l st e f k = (e, k, f) := by
  unfold run
  rw [show l.length - k = (l.length - (k + 1)) + 1 by omega]
  simp only [runF, hs, if_true]
theorem run_go {l : List Int} {k : Nat} (h : k < l.length) {st s' : Int} (hs : stepZ st (l.getD k 0) = s') (h0 : 0 ≤ s') (hf : formZ s' = 0) (e : Nat) (f : Int) : run l st e f k = run l s' e f (k + 1) := by
  unfold run
  rw [show l.length - k = (l.length - (k + 1)) + 1 by omega]
  simp only [runF, hs, hf, ne_eq, not_true, if_false, show ¬ s' < 0 by omega]
theorem run_take {l : List Int} {k : Nat} (h : k < l.length) {st s' : Int} (hs : stepZ st (l.getD k 0) = s') (h0 : 0 ≤ s') (hf : formZ s' ≠ 0) (e : Nat) (f : Int) : run l st e f k = run l s' (k + 1) (formZ s') (k + 1) := by
  unfold run
  rw [show l.length - k = (l.length - (k + 1)) + 1 by omega]
  simp only [runF, hs, ne_eq, hf, not_false_eq_true, if_true, show ¬ s' < 0 by omega, if_false]

theorem isAt_of {l : List Int} {k : Nat} (h : k < l.length) (c : Int) : isAt l k c = (l.getD k 0 == c) := by simp [-List.getD_eq_getElem?_getD, isAt, h]
theorem digAt_of {l : List Int} {k : Nat} (h : k < l.length) : digAt l k = digB (l.getD k 0) := by simp [-List.getD_eq_getElem?_getD, digAt, h]
theorem isAt_not {l : List Int} {k : Nat} (h : ¬ k < l.length) (c : Int) : isAt l k c = false := by simp [-List.getD_eq_getElem?_getD, isAt, h]
theorem digAt_not {l : List Int} {k : Nat} (h : ¬ k < l.length) : digAt l k = false := by simp [-List.getD_eq_getElem?_getD, digAt, h]
theorem digB_not {c : Int} (h : digB c = true) : c ≠ 45 ∧ c ≠ 43 ∧ c ≠ 46 ∧ c ≠ 101 ∧ c ≠ 69 := by
  unfold digB at h
  simp only [Bool.and_eq_true, decide_eq_true_eq] at h
  omega

theorem run8 (l : List Int) (k : Nat) (hk : k ≤ l.length) : run l 8 k 2 k = (digs l k, digs l k, 2) := by
  generalize hm : l.length - k = m
  induction m generalizing k with
  | zero =>
    rw [run_end (by omega), digs_no (digAt_not (by omega)), show k = l.length by omega]
  | succ m ih =>
    have hl : k < l.length := by omega
    cases h : digAt l k
    · rw [digs_no h, run_bad hl]
      rw [digAt_of hl] at h
      simp [-List.getD_eq_getElem?_getD, stepZ, h]
    · rw [digs_yes h, ← ih (k + 1) (by omega) (by omega)]
      rw [digAt_of hl] at h
      exact run_take (s' := 8) hl (by simp [-List.getD_eq_getElem?_getD, stepZ, h]) (by omega) (by decide) _ _
theorem run7 (l : List Int) (k : Nat) (hk : k ≤ l.length) (e : Nat) (f : Int) : run l 7 e f k = if digAt l k then (digs l k, digs l k, 2) else (e, k, f) := by
  by_cases hl : k < l.length
  · cases h : digAt l k
    · rw [run_bad hl]
      · rfl
      · rw [digAt_of hl] at h; simp [-List.getD_eq_getElem?_getD, stepZ, h]
    · rw [digs_yes h, ← run8 l (k + 1) (by omega)]
      rw [digAt_of hl] at h
      exact run_take (s' := 8) hl (by simp [-List.getD_eq_getElem?_getD, stepZ, h]) (by omega) (by decide) _ _
  · rw [run_end hl, digAt_not hl, show k = l.length by omega]; rfl
def after6 (l : List Int) (k e : Nat) (f : Int) : Nat × Nat × Int :=
  if digAt l k then (digs l k, digs l k, 2) else if isAt l k 43 = true ∨ isAt l k 45 = true then (if digAt l (k + 1) then (digs l (k + 1), digs l (k + 1), 2) else (e, k + 1, f)) else (e, k, f)
theorem run6 (l : List Int) (k : Nat) (hk : k ≤ l.length) (e : Nat) (f : Int) : run l 6 e f k = after6 l k e f := by
  unfold after6
  by_cases hl : k < l.length
  · cases h : digAt l k
    · by_cases hs : isAt l k 43 = true ∨ isAt l k 45 = true
      · rw [if_neg (by simp), if_pos hs, ← run7 l (k + 1) (by omega) e f]
        rw [isAt_of hl, isAt_of hl] at hs
        rw [digAt_of hl] at h
        refine run_go (s' := 7) hl ?_ (by omega) (by decide) _ _
        simp only [beq_iff_eq] at hs
        simp [-List.getD_eq_getElem?_getD, stepZ, h, hs]
      · rw [if_neg (by simp), if_neg hs, run_bad hl]
        rw [isAt_of hl, isAt_of hl] at hs
        rw [digAt_of hl] at h
        simp only [beq_iff_eq] at hs
        simp [-List.getD_eq_getElem?_getD, stepZ, h, hs]
    · rw [if_pos rfl, digs_yes h, ← run8 l (k + 1) (by omega)]
      rw [digAt_of hl] at h
      exact run_take (s' := 8) hl (by simp [-List.getD_eq_getElem?_getD, stepZ, h]) (by omega) (by decide) _ _
  · rw [run_end hl, digAt_not hl, isAt_not hl, isAt_not hl, show k = l.length by omega]; simp
def isE (l : List Int) (k : Nat) : Bool := isAt l k 101 || isAt l k 69
theorem isE_of {l : List Int} {k : Nat} (h : k < l.length) : isE l k = true ↔ (l.getD k 0 = 101 ∨ l.getD k 0 = 69) := by
  unfold isE
  rw [isAt_of h, isAt_of h]
  simp only [Bool.or_eq_true, beq_iff_eq]
theorem isE_not {l : List Int} {k : Nat} (h : ¬ k < l.length) : isE l k = false := by simp [isE, isAt_not h]
def afterE (l : List Int) (d : Nat) (f : Int) : Nat × Nat × Int := if isE l d then after6 l (d + 1) d f else (d, d, f)
theorem run5 (l : List Int) (k : Nat) (hk : k ≤ l.length) : run l 5 k 2 k = afterE l (digs l k) 2 := by
  generalize hm : l.length - k = m
  induction m generalizing k with
  | zero =>
    rw [run_end (by omega), digs_no (digAt_not (by omega))]
    unfold afterE
    rw [isE_not (by omega), show k = l.length by omega]; rfl
  | succ m ih =>
    have hl : k < l.length := by omega
    cases h : digAt l k
    · rw [digs_no h]
      unfold afterE
      rw [digAt_of hl] at h
      cases he : isE l k
      · rw [run_bad hl]
        · rfl
        · have : ¬ (l.getD k 0 = 101 ∨ l.getD k 0 = 69) := fun h => (by simp [he] : ¬ isE l k = true) ((isE_of hl).2 h)
          simp [-List.getD_eq_getElem?_getD, stepZ, h, this]
      · rw [if_pos rfl, ← run6 l (k + 1) (by omega)]
        refine run_go (s' := 6) hl ?_ (by omega) (by decide) _ _
        have := (isE_of hl).1 he
        simp [-List.getD_eq_getElem?_getD, stepZ, h, this]
    · rw [digs_yes h, ← ih (k + 1) (by omega) (by omega)]
      rw [digAt_of hl] at h
      exact run_take (s' := 5) hl (by simp [-List.getD_eq_getElem?_getD, stepZ, h]) (by omega) (by decide) _ _
theorem run4 (l : List Int) (k : Nat) (hk : k ≤ l.length) (e : Nat) (f : Int) : run l 4 e f k = if digAt l k then afterE l (digs l k) 2 else (e, k, f) := by
  by_cases hl : k < l.length
  · cases h : digAt l k
    · rw [run_bad hl]
      · rfl
      · rw [digAt_of hl] at h; simp [-List.getD_eq_getElem?_getD, stepZ, h]
    · rw [if_pos rfl, digs_yes h, ← run5 l (k + 1) (by omega)]
      rw [digAt_of hl] at h
      exact run_take (s' := 5) hl (by simp [-List.getD_eq_getElem?_getD, stepZ, h]) (by omega) (by decide) _ _
  · rw [run_end hl, digAt_not hl, show k = l.length by omega]; rfl
def tailZ (l : List Int) (d : Nat) : Nat × Nat × Int := if isAt l d 46 then (if digAt l (d + 1) then afterE l (digs l (d + 1)) 2 else (d, d + 1, 1)) else afterE l d 1
theorem run_tail (l : List Int) (k : Nat) (hk : k ≤ l.length) (st : Int) (hst : st = 2 ∨ (st = 3 ∧ digAt l k = false)) : run l st k 1 k = tailZ l k := by
  unfold tailZ
  by_cases hl : k < l.length
  · have hnd : ¬ (digB (l.getD k 0) = true ∧ st = 3) := by
      rcases hst with rfl | ⟨rfl, h⟩
      · omega
      · rw [digAt_of hl] at h; simp only [h]; simp
    have hstep : stepZ st (l.getD k 0) = if l.getD k 0 = 46 then 4 else if l.getD k 0 = 101 ∨ l.getD k 0 = 69 then 6 else -1 := by
      unfold stepZ
      rw [if_neg (by omega), if_pos (by omega), if_neg hnd]
    cases h : isAt l k 46
    · rw [isAt_of hl] at h
      have h46 : ¬ l.getD k 0 = 46 := by simpa [-List.getD_eq_getElem?_getD] using h
      rw [if_neg h46] at hstep
      unfold afterE
      cases he : isE l k
      · have h2 := fun h => (by simp [he] : ¬ isE l k = true) ((isE_of hl).2 h)
        rw [if_neg h2] at hstep
        rw [run_bad hl (by omega)]
        rfl
      · have h2 := (isE_of hl).1 he
        rw [if_pos h2] at hstep
        rw [if_neg (by simp), if_pos rfl, ← run6 l (k + 1) (by omega)]
        exact run_go (s' := 6) hl hstep (by omega) (by decide) _ _
    · rw [isAt_of hl] at h
      have h46 : l.getD k 0 = 46 := by simpa [-List.getD_eq_getElem?_getD] using h
      rw [if_pos h46] at hstep
      rw [if_pos rfl, ← run4 l (k + 1) (by omega)]
      exact run_go (s' := 4) hl hstep (by omega) (by decide) _ _
  · rw [run_end hl, isAt_not hl]
    have e : afterE l k 1 = (k, k, 1) := by unfold afterE; rw [isE_not hl]; rfl
    rw [e, show k = l.length by omega]; rfl
theorem run3 (l : List Int) (k : Nat) (hk : k ≤ l.length) : run l 3 k 1 k = tailZ l (digs l k) := by
  generalize hm : l.length - k = m
  induction m generalizing k with
  | zero =>
    have hd : digAt l k = false := digAt_not (by omega)
    rw [digs_no hd]
    exact run_tail l k hk 3 (.inr ⟨rfl, hd⟩)
  | succ m ih =>
    have hl : k < l.length := by omega
    cases h : digAt l k
    · rw [digs_no h]
      exact run_tail l k hk 3 (.inr ⟨rfl, h⟩)
    · rw [digs_yes h, ← ih (k + 1) (by omega) (by omega)]
      rw [digAt_of hl] at h
      exact run_take (s' := 3) hl (by simp [-List.getD_eq_getElem?_getD, stepZ, h]) (by omega) (by decide) _ _
def wholeZ (l : List Int) (p k : Nat) : Nat × Nat × Int := if isAt l k 48 then tailZ l (k + 1) else if digAt l k then tailZ l (digs l k) else (p, k, 0)
theorem run_whole (l : List Int) (k : Nat) (hk : k ≤ l.length) (st : Int) (hst : st = 1 ∨ (st = 0 ∧ isAt l k 45 = false)) (p : Nat) : run l st p 0 k = wholeZ l p k := by
  unfold wholeZ
  by_cases hl : k < l.length
  · have hstep : stepZ st (l.getD k 0) = if l.getD k 0 = 48 then 2 else if digB (l.getD k 0) then 3 else -1 := by
      unfold stepZ
      rw [if_pos (by omega), if_neg]
      rintro ⟨h1, h2⟩
      rcases hst with rfl | ⟨rfl, h⟩
      · omega
      · rw [isAt_of hl] at h; simp [-List.getD_eq_getElem?_getD] at h; exact h h1
    cases h : isAt l k 48
    · rw [isAt_of hl] at h
      rw [if_neg (by simpa [-List.getD_eq_getElem?_getD] using h)] at hstep
      cases hd : digAt l k
      · rw [digAt_of hl] at hd
        rw [hd, if_neg (by simp)] at hstep
        rw [run_bad hl (by omega)]; rfl
      · rw [if_neg (by simp), if_pos rfl, digs_yes hd, ← run3 l (k + 1) (by omega)]
        rw [digAt_of hl] at hd
        rw [hd, if_pos rfl] at hstep
        exact run_take (s' := 3) hl hstep (by omega) (by decide) _ _
    · rw [isAt_of hl] at h
      rw [if_pos (by simpa [-List.getD_eq_getElem?_getD] using h)] at hstep
      rw [if_pos rfl, ← run_tail l (k + 1) (by omega) 2 (.inl rfl)]
      exact run_take (s' := 2) hl hstep (by omega) (by decide) _ _
  · rw [run_end hl, isAt_not hl, digAt_not hl, show k = l.length by omega]; rfl
theorem run0 (l : List Int) (p : Nat) (hp : p ≤ l.length) : run l 0 p 0 p = wholeZ l p (pfxFirst l p) := by
  unfold pfxFirst
  cases h : isAt l p 45
  · exact run_whole l p hp 0 (.inr ⟨rfl, h⟩) p
  · have hl := isAt_lt h
    rw [if_pos rfl, ← run_whole l (p + 1) (by omega) 1 (.inl rfl) p]
    rw [isAt_of hl] at h
    exact run_go (s' := 1) hl (by simp [-List.getD_eq_getElem?_getD] at h; simp [-List.getD_eq_getElem?_getD, stepZ, h]) (by omega) (by decide) _ _

theorem bPart_of (l : List Int) (p first : Nat) (h : p < first) : bPart l p first = if digAt l first then (digs l first, digs l first) else (p, first) := by
  unfold bPart
  rw [if_neg (by omega)]
  cases hd : digAt l first
  · rw [digs_no hd]; simp
  · have := digs_pos hd
    rw [if_neg (by omega)]; rfl
theorem bMark_e (l : List Int) (d : Nat) : bMark l d = if isE l d then (if isAt l (d + 1) 43 = true ∨ isAt l (d + 1) 45 = true then d + 2 else d + 1) else d := by
  unfold bMark isE
  cases h1 : isAt l d 101 <;> cases h2 : isAt l d 69 <;> simp
/-- The part of an exponent. -/
theorem part_mark (l : List Int) (d : Nat) (f : Int) : afterE l d f = ((bPart l d (bMark l d)).1, (bPart l d (bMark l d)).2, if (bPart l d (bMark l d)).1 > d then 2 else f) := by
  rw [bMark_e]
  unfold afterE after6
  cases he : isE l d
  · simp [bPart]
  · simp only [if_true]
    cases hd : digAt l (d + 1)
    · by_cases hs : isAt l (d + 1) 43 = true ∨ isAt l (d + 1) 45 = true
      · rw [if_pos hs, if_pos hs, bPart_of l d (d + 2) (by omega)]
        cases hd2 : digAt l (d + 2)
        · simp
        · have := digs_pos hd2
          simp [show d < digs l (d + 2) by omega]
      · rw [if_neg hs, if_neg hs, bPart_of l d (d + 1) (by omega), hd]
        simp
    · have hns : ¬ (isAt l (d + 1) 43 = true ∨ isAt l (d + 1) 45 = true) := by
        have hl := digAt_lt hd
        rw [digAt_of hl] at hd
        rw [isAt_of hl, isAt_of hl]
        have := digB_not hd
        simp only [beq_iff_eq]
        omega
      have := digs_pos hd
      rw [if_neg hns, if_neg hns, bPart_of l d (d + 1) (by omega), hd]
      simp [show d < digs l (d + 1) by omega]
theorem part_tail (l : List Int) (e : Nat) : tailZ l e = ((pfxR l e).1, (pfxR l e).2, if (pfxR l e).1 > e then 2 else 1) := by
  unfold tailZ pfxR bPoint
  cases h : isAt l e 46
  · have e1 : bPart l e e = (e, e) := by simp [bPart]
    simp only [e1, if_true, if_false, Bool.false_eq_true]
    exact part_mark l e 1
  · simp only [if_true]
    rw [bPart_of l e (e + 1) (by omega)]
    cases hd : digAt l (e + 1)
    · simp
    · have := digs_pos hd
      simp only [if_true]
      rw [part_mark]
      have h2 : digs l (e + 1) ≤ (bPart l (digs l (e + 1)) (bMark l (digs l (e + 1)))).1 := by
        unfold bPart
        repeat' split
        · exact Nat.le_refl _
        · exact Nat.le_refl _
        · rename_i h3 h4
          have h5 := (digs_le l (bMark l (digs l (e + 1)))).1
          have : digs l (e + 1) ≤ bMark l (digs l (e + 1)) := by
            unfold bMark
            repeat' split
            all_goals omega
          simp only
          omega
      have h3 : (bPart l (digs l (e + 1)) (bMark l (digs l (e + 1)))).1 > e := by omega
      rw [if_pos h3]
      split <;> rfl
theorem pfx_run (l : List Int) (p : Nat) (hp : p ≤ l.length) : run l 0 p 0 p = pfx l p := by
  rw [run0 l p hp]
  unfold wholeZ pfx bWhole
  cases h : isAt l (pfxFirst l p) 48
  · simp only [Bool.false_eq_true, if_false]
    cases hd : digAt l (pfxFirst l p)
    · rw [digs_no hd]; simp
    · have := digs_pos hd
      rw [if_neg (by omega : ¬ digs l (pfxFirst l p) = pfxFirst l p), part_tail]; rfl
  · simp only [if_true]
    rw [if_neg (by omega), part_tail]
theorem whole_le {l : List Int} {p : Nat} (h : p ≤ l.length) : bWhole l p ≤ l.length := by
  unfold bWhole
  split
  · rename_i e; exact isAt_lt e
  · exact (digs_le l p).2 h
theorem point_le {l : List Int} {p : Nat} (h : p ≤ l.length) : bPoint l p ≤ l.length := by
  unfold bPoint
  split
  · rename_i e; exact isAt_lt e
  · exact h
theorem mark_le {l : List Int} {p : Nat} (h : p ≤ l.length) : bMark l p ≤ l.length := by
  unfold bMark
  split
  · exact h
  · rename_i e
    split
    · rename_i e2
      rcases e2 with e2 | e2
      · exact isAt_lt e2
      · exact isAt_lt e2
    · cases h1 : isAt l p 101
      · cases h2 : isAt l p 69
        · exact absurd ⟨h1, h2⟩ e
        · exact isAt_lt h2
      · exact isAt_lt h1
theorem part_le {l : List Int} {p f : Nat} (h : p ≤ l.length) (hf : f ≤ l.length) : (bPart l p f).1 ≤ l.length ∧ (bPart l p f).2 ≤ l.length := by
  unfold bPart
  have := (digs_le l f).2 hf
  repeat' split
  all_goals exact ⟨by simp only; omega, by simp only; omega⟩
theorem pfx_le (l : List Int) (p : Nat) (hp : p ≤ l.length) : (pfx l p).1 ≤ l.length ∧ (pfx l p).2.1 ≤ l.length := by
  rw [← pfx_run l p hp]
  unfold run
  generalize hm : l.length - p = m
  have : ∀ (m : Nat) (st : Int) (e : Nat) (f : Int) (k : Nat), e ≤ l.length → k + m ≤ l.length → (runF l m st e f k).1 ≤ l.length ∧ (runF l m st e f k).2.1 ≤ l.length := by
    intro m
    induction m with
    | zero => intro st e f k he hk; exact ⟨he, Nat.le_refl _⟩
    | succ m ih =>
      intro st e f k he hk
      simp only [runF]
      repeat' split
      · exact ⟨he, by simp only; omega⟩
      · exact ih _ _ _ _ (by omega) (by omega)
      · exact ih _ _ _ _ he (by omega)
  exact this m 0 p 0 p hp (by omega)
end Go.Proofs.YtdmfbahnhkdamaaGreat.mem
namespace Go.Proofs.YtdmfbahnhkdamaaGreat.lx
open mem (pfx digB pfx_le)
set_option linter.unusedVariables false

/-- The lexer, on lists of characters. -/
def cAt (l : List Int) (i : Nat) : Int := if i < l.length then l.getD i 0 else -1
def blB (c : Int) : Bool := decide (c = 9 ∨ c = 10 ∨ c = 13 ∨ c = 32 ∨ c = 44 ∨ c = 65279)
def soB (c : Int) : Bool := decide (c = 9 ∨ c = 10 ∨ c = 13 ∨ (32 ≤ c ∧ c ≤ 55295) ∨ (57344 ≤ c ∧ c ≤ 65535))
def nsB (c : Int) : Bool := decide ((65 ≤ c ∧ c ≤ 90) ∨ (97 ≤ c ∧ c ≤ 122) ∨ c = 95)
def nrB (c : Int) : Bool := decide (((65 ≤ c ∧ c ≤ 90) ∨ (97 ≤ c ∧ c ≤ 122) ∨ c = 95) ∨ (48 ≤ c ∧ c ≤ 57))
def puL : List Int := [33, 36, 38, 40, 41, 58, 61, 64, 91, 93, 123, 124, 125]
def puB (c : Int) : Bool := puL.contains c
theorem cAt_end {l : List Int} {i : Nat} (h : l.length ≤ i) : cAt l i = -1 := if_neg (by omega)
theorem cAt_in {l : List Int} {i : Nat} (h : i < l.length) : cAt l i = l.getD i 0 := if_pos h
theorem cAt_lt {l : List Int} {i : Nat} {c : Int} (h : cAt l i = c) (hc : c ≠ -1) : i < l.length := by
  rcases Nat.lt_or_ge i l.length with h1 | h1
  · exact h1
  · rw [cAt_end h1] at h; exact absurd h.symm hc
def ignF (l : List Int) : Nat → Bool → Nat → Nat
  | 0, _, i => i
  | f + 1, false, i => if blB (cAt l i) then ignF l f false (i + 1) else if cAt l i = 35 then ignF l f true (i + 1) else i
  | f + 1, true, i => if cAt l i = 10 ∨ cAt l i = 13 then ignF l f false (i + 1) else if soB (cAt l i) then ignF l f true (i + 1) else i
def ign (l : List Int) (b : Bool) (i : Nat) : Nat := ignF l (l.length + 1 - i) b i
theorem ign_f (l : List Int) (i : Nat) : ign l false i = if blB (cAt l i) then ign l false (i + 1) else if cAt l i = 35 then ign l true (i + 1) else i := by
  unfold ign
  rcases Nat.lt_or_ge i l.length with h | h
  · rw [show l.length + 1 - i = (l.length + 1 - (i + 1)) + 1 by omega]; rfl
  · rw [cAt_end h]
    cases l.length + 1 - i with
    | zero => simp [ignF, blB]
    | succ f => simp [ignF, blB, cAt_end h]
theorem ign_t (l : List Int) (i : Nat) : ign l true i = if cAt l i = 10 ∨ cAt l i = 13 then ign l false (i + 1) else if soB (cAt l i) then ign l true (i + 1) else i := by
  unfold ign
  rcases Nat.lt_or_ge i l.length with h | h
  · rw [show l.length + 1 - i = (l.length + 1 - (i + 1)) + 1 by omega]; rfl
  · rw [cAt_end h]
    cases l.length + 1 - i with
    | zero => simp [ignF, soB]
    | succ f => simp [ignF, soB, cAt_end h]
theorem ignF_le (l : List Int) (f : Nat) (b : Bool) (i : Nat) : i ≤ ignF l f b i ∧ (i ≤ l.length → ignF l f b i ≤ l.length) := by
  induction f generalizing b i with
  | zero => simp [ignF]
  | succ f ih =>
    have hl : ∀ c : Int, cAt l i = c → c ≠ -1 → i + 1 ≤ l.length := fun c h hc => cAt_lt h hc
    have a1 := ih false (i + 1)
    have a2 := ih true (i + 1)
    cases b <;> simp only [ignF]
    · split
      · rename_i h
        have := hl _ rfl (fun e => by rw [e] at h; simp [blB] at h)
        omega
      · split
        · rename_i h
          have := hl _ h (by decide)
          omega
        · omega
    · split
      · rename_i h
        have := hl _ rfl (fun e => by rw [e] at h; simp at h)
        omega
      · split
        · rename_i h
          have := hl _ rfl (fun e => by rw [e] at h; simp [soB] at h)
          omega
        · omega
theorem ign_le (l : List Int) (b : Bool) (i : Nat) : i ≤ ign l b i ∧ (i ≤ l.length → ign l b i ≤ l.length) := ignF_le l _ b i
def namF (l : List Int) : Nat → Nat → Nat
  | 0, i => i
  | f + 1, i => if nrB (cAt l i) then namF l f (i + 1) else i
def nam (l : List Int) (i : Nat) : Nat := namF l (l.length + 1 - i) i
theorem nam_eq (l : List Int) (i : Nat) : nam l i = if nrB (cAt l i) then nam l (i + 1) else i := by
  unfold nam
  rcases Nat.lt_or_ge i l.length with h | h
  · rw [show l.length + 1 - i = (l.length + 1 - (i + 1)) + 1 by omega]; rfl
  · rw [cAt_end h]
    cases l.length + 1 - i with
    | zero => simp [namF, nrB]
    | succ f => simp [namF, nrB, cAt_end h]
theorem namF_le (l : List Int) (f : Nat) (i : Nat) : i ≤ namF l f i ∧ (i ≤ l.length → namF l f i ≤ l.length) := by
  induction f generalizing i with
  | zero => simp [namF]
  | succ f ih =>
    have a1 := ih (i + 1)
    simp only [namF]
    split
    · rename_i h
      have := cAt_lt (l := l) (i := i) rfl (fun e => by rw [e] at h; simp [nrB] at h)
      omega
    · omega
theorem nam_le (l : List Int) (i : Nat) : i ≤ nam l i ∧ (i ≤ l.length → nam l i ≤ l.length) := namF_le l _ i
/-- a number: its kind, and the place behind it -/
def num (l : List Int) (i : Nat) : Int × Nat :=
  if cAt l (pfx l i).1 = 46 ∨ nrB (cAt l (pfx l i).1) then (1, i) else if (pfx l i).2.2 = 1 then (4, (pfx l i).1) else if (pfx l i).2.2 = 2 then (5, (pfx l i).1) else (1, i)
theorem bPart_ge (l : List Int) (p f : Nat) (h : p ≤ f) : p ≤ (mem.bPart l p f).1 := by
  unfold mem.bPart
  split
  · exact Nat.le_refl _
  · split
    · exact Nat.le_refl _
    · exact Nat.le_trans h (mem.digs_le l f).1
theorem pfx_pos (l : List Int) (p : Nat) : (pfx l p).2.2 = 0 ∨ p < (pfx l p).1 := by
  unfold pfx
  split
  · exact .inl rfl
  · rename_i h
    right
    have h1 : p ≤ mem.pfxFirst l p := by unfold mem.pfxFirst; split <;> omega
    have h2 : mem.pfxFirst l p ≤ mem.bWhole l (mem.pfxFirst l p) := by
      unfold mem.bWhole
      split
      · omega
      · exact (mem.digs_le l _).1
    have h3 : ∀ e, e ≤ (mem.pfxR l e).1 := fun e => by
      have hp : ∀ q, q ≤ mem.bPoint l q := fun q => by unfold mem.bPoint; split <;> omega
      have hm : ∀ q, q ≤ mem.bMark l q := fun q => by unfold mem.bMark; split; omega; split <;> omega
      have h4 := bPart_ge l e (mem.bPoint l e) (hp e)
      unfold mem.pfxR
      split
      · exact Nat.le_trans h4 (bPart_ge l _ _ (hm _))
      · exact h4
    have := h3 (mem.bWhole l (mem.pfxFirst l p))
    show p < (mem.pfxR l (mem.bWhole l (mem.pfxFirst l p))).1
    omega
theorem num_le (l : List Int) (i : Nat) (hi : i ≤ l.length) : i ≤ (num l i).2 ∧ (num l i).2 ≤ l.length ∧ ((num l i).1 = 1 ∨ i < (num l i).2) ∧ (num l i).1 ≠ 0 := by
  have h1 := pfx_le l i hi
  have h2 := pfx_pos l i
  unfold num
  split
  · exact ⟨Nat.le_refl _, hi, .inl rfl, by simp⟩
  · split
    · rename_i h
      have : i < (pfx l i).1 := by rcases h2 with h2 | h2; rw [h] at h2; cases h2; exact h2
      exact ⟨by omega, h1.1, .inr this, by simp⟩
    · split
      · rename_i h
        have : i < (pfx l i).1 := by rcases h2 with h2 | h2; rw [h] at h2; cases h2; exact h2
        exact ⟨by omega, h1.1, .inr this, by simp⟩
      · exact ⟨Nat.le_refl _, hi, .inl rfl, by simp⟩
/-- the token that begins at i: its kind, and the place behind it (no quote stands there) -/
def rd (l : List Int) (cl : Bool) (i : Nat) : Int × Nat :=
  if i = l.length ∧ cl = true then (0, i)
  else if cAt l i = 46 then (if cAt l (i + 1) = 46 ∧ cAt l (i + 2) = 46 then (2, i + 3) else (1, i))
  else if puB (cAt l i) then (2, i + 1)
  else if nsB (cAt l i) then (3, nam l (i + 1))
  else if cAt l i = 45 ∨ digB (cAt l i) then num l i
  else (1, i)
theorem rd_le (l : List Int) (cl : Bool) (i : Nat) (hi : i ≤ l.length) : i ≤ (rd l cl i).2 ∧ (rd l cl i).2 ≤ l.length ∧ ((rd l cl i).1 = 0 ∨ (rd l cl i).1 = 1 ∨ i < (rd l cl i).2) := by
  unfold rd
  split
  · exact ⟨Nat.le_refl _, hi, .inl rfl⟩
  split
  · split
    · rename_i h
      have := cAt_lt h.2 (by decide)
      exact ⟨by show i ≤ i + 3; omega, this, .inr (.inr (by show i < i + 3; omega))⟩
    · exact ⟨Nat.le_refl _, hi, .inr (.inl rfl)⟩
  split
  · rename_i h
    have := cAt_lt (l := l) (i := i) rfl (fun e => by rw [e] at h; revert h; decide)
    exact ⟨Nat.le_succ _, this, .inr (.inr (Nat.lt_succ_self _))⟩
  split
  · rename_i h
    have := cAt_lt (l := l) (i := i) rfl (fun e => by rw [e] at h; revert h; decide)
    have h2 := nam_le l (i + 1)
    exact ⟨by show i ≤ nam l (i + 1); omega, h2.2 this, .inr (.inr h2.1)⟩
  split
  · have := num_le l i hi
    exact ⟨this.1, this.2.1, by rcases this.2.2.1 with h | h; exact .inr (.inl h); exact .inr (.inr h)⟩
  · exact ⟨Nat.le_refl _, hi, .inr (.inl rfl)⟩
end Go.Proofs.YtdmfbahnhkdamaaGreat.lx
namespace Go.Proofs.YtdmfbahnhkdamaaGreat.mem
open Go.ChangeShapes Go.WideShapes Go.ChangeAt Go.RowKit
open ints (hide unhide)
set_option linter.unusedVariables false


theorem is_i (a : Option Addr) (n c : Nat) (l : List Int) (p : Nat) (x : Int) (w : World) (h : Row .i32 w a n c l) (hn : n ≤ 4611686018427387904) (hp : p ≤ 4611686018427387904) :
    Calls Tryz.prog 82 #[.slice a n c, .int .i64 (p : Int), .int .i32 x] w fun e w' => e = .returned (.bool (isAt l p x)) ∧ Below w.heap.size w w' := by
  by_cases hlt : p < n
  · rcases h.at_ with h0 | ⟨b, off, rfl, hbw, hcell⟩
    · omega
    have c1 := hcell p hlt
    have HI := hide (show isAt l p x = (l.getD p 0 == x) from isAt_of (by rw [h.len]; exact hlt) x)
    have pi : (p : Int) < (n : Int) := by omega
    rw [unhide HI]
    generalize l.getD p 0 = y at *
    clear hcell
    go_enter Tryz.func82, Tryz.ntmps82
    cases e1 : (y == x)
    all_goals
      go_wp2
      go_ret
      exact ⟨rfl, Below.refl _ _⟩
  · have HI := hide (show isAt l p x = false from isAt_not (by rw [h.len]; exact hlt) x)
    have pi : ¬ (p : Int) < (n : Int) := by omega
    rw [unhide HI]
    go_enter Tryz.func82, Tryz.ntmps82
    go_wp2
    go_ret
    exact ⟨rfl, Below.refl _ _⟩
theorem digs_i (a : Option Addr) (n c : Nat) (l : List Int) (p : Nat) (w : World) (h : Row .i32 w a n c l) (hn : n ≤ 4611686018427387904) (hp : p ≤ 4611686018427387904) :
    Calls Tryz.prog 93 #[.slice a n c, .int .i64 (p : Int)] w fun e w' => e = .returned (.int .i64 (digs l p : Nat)) ∧ Below w.heap.size w w' := by
  go_enter Tryz.func93, Tryz.ntmps93
  go_wp2
  go_loopw [1] (fun v wr => ∃ k : Nat, k ≤ 4611686018427387904 ∧ v = .int .i64 k ∧ digs l p = digs l k ∧ Below w.heap.size w wr) (fun v _ => n - (intOf v).toNat)
  case atStart => exact ⟨p, hp, rfl, rfl, Below.refl _ _⟩
  case round =>
    obtain ⟨k, hk, rfl, heq, hbel⟩ := hrel
    have HE := hide heq
    clear heq
    by_cases hlt : k < n
    · rcases h.at_ with h0 | ⟨b, off, rfl, hbw, hcell⟩
      · omega
      have c1 := (hbel.cell (p := ⟨b, off + k, none⟩) hbw).trans (hcell k hlt)
      have HD := hide (show digAt l k = digB (l.getD k 0) from digAt_of (by rw [h.len]; exact hlt))
      have ki : (k : Int) < (n : Int) := by omega
      generalize l.getD k 0 = y at *
      clear hcell
      by_cases h1 : 48 ≤ y
      · by_cases h2 : y ≤ 57
        · have hd := hide (show digAt l k = true from by rw [unhide HD]; simp [digB, h1, h2])
          go_wp2
          go_roundw
          case rel => exact ⟨k + 1, by omega, by go_num, by rw [unhide HE, digs_yes (unhide hd)], hbel⟩
          case measure => simp [intOf]; omega
        · have hd := hide (show digAt l k = false from by rw [unhide HD]; simp [digB, h1, h2])
          go_wp2
          go_ret
          rw [unhide HE, digs_no (unhide hd)]
          exact ⟨rfl, hbel⟩
      · have hd := hide (show digAt l k = false from by rw [unhide HD]; simp [digB, h1])
        go_wp2
        go_ret
        rw [unhide HE, digs_no (unhide hd)]
        exact ⟨rfl, hbel⟩
    · have ki : ¬ (k : Int) < (n : Int) := by omega
      have hd := hide (show digAt l k = false from digAt_not (by rw [h.len]; exact hlt))
      go_wp2
      go_ret
      rw [unhide HE, digs_no (unhide hd)]
      exact ⟨rfl, hbel⟩
theorem isq_i (a : Option Addr) (n c : Nat) (l : List Int) (p : Nat) (q : Int) (hq : q = (p : Int)) (x : Int) (w : World) (h : Row .i32 w a n c l) (hn : n ≤ 4611686018427387904) (hp : p ≤ 4611686018427387904) :
    Calls Tryz.prog 82 #[.slice a n c, .int .i64 q, .int .i32 x] w fun e w' => e = .returned (.bool (isAt l p x)) ∧ Below w.heap.size w w' := by
  subst hq; exact is_i a n c l p x w h hn hp
theorem point_i (a : Option Addr) (n c : Nat) (l : List Int) (p : Nat) (w : World) (h : Row .i32 w a n c l) (hn : n ≤ 4611686018427387904) (hp : p ≤ 4611686018427387904) :
    Calls Tryz.prog 85 #[.slice a n c, .int .i64 (p : Int)] w fun e w' => e = .returned (.int .i64 (bPoint l p : Nat)) ∧ Below w.heap.size w w' := by
  go_enter Tryz.func85, Tryz.ntmps85
  go_wp2_with fail
  refine (is_i a n c l p 46 w h hn hp).mono ?_
  rintro e w1 ⟨rfl, b1⟩
  cases e1 : isAt l p 46
  all_goals
    go_wp2
    go_ret
    exact ⟨by unfold bPoint; rw [e1]; go_num, b1⟩
theorem mark_i (a : Option Addr) (n c : Nat) (l : List Int) (p : Nat) (w : World) (h : Row .i32 w a n c l) (hn : n ≤ 4611686018427387904) (hp : p ≤ 4611686018427387903) :
    Calls Tryz.prog 86 #[.slice a n c, .int .i64 (p : Int)] w fun e w' => e = .returned (.int .i64 (bMark l p : Nat)) ∧ Below w.heap.size w w' := by
  go_enter Tryz.func86, Tryz.ntmps86
  go_wp2_with fail
  refine (is_i a n c l p 101 w h hn (by omega)).mono ?_
  rintro e w1 ⟨rfl, b1⟩
  cases e1 : isAt l p 101
  · go_wp2_with fail
    refine (is_i a n c l p 69 w1 (h.below b1) hn (by omega)).mono ?_
    rintro e w2 ⟨rfl, b2⟩
    have b2 := b1.trans (b2.mono b1.size)
    cases e2 : isAt l p 69
    · go_wp2
      go_ret
      exact ⟨by unfold bMark; rw [if_pos ⟨e1, e2⟩]; rfl, b2⟩
    · go_wp2_with fail
      refine (isq_i a n c l (p + 1) _ (by omega) 43 w2 (h.below b2) hn (by omega)).mono ?_
      rintro e w3 ⟨rfl, b3⟩
      have b3 := b2.trans (b3.mono b2.size)
      cases e3 : isAt l (p + 1) 43
      · go_wp2_with fail
        refine (isq_i a n c l (p + 1) _ (by omega) 45 w3 (h.below b3) hn (by omega)).mono ?_
        rintro e w4 ⟨rfl, b4⟩
        have b4 := b3.trans (b4.mono b3.size)
        cases e4 : isAt l (p + 1) 45
        · go_wp2
          go_ret
          exact ⟨by unfold bMark; rw [if_neg (by simp [e2]), if_neg (by simp [e3, e4])]; go_num, b4⟩
        · go_wp2
          go_ret
          exact ⟨by unfold bMark; rw [if_neg (by simp [e2]), if_pos (.inr e4)]; go_num, b4⟩
      · go_wp2
        go_ret
        exact ⟨by unfold bMark; rw [if_neg (by simp [e2]), if_pos (.inl e3)]; go_num, b3⟩
  · go_wp2_with fail
    refine (isq_i a n c l (p + 1) _ (by omega) 43 w1 (h.below b1) hn (by omega)).mono ?_
    rintro e w3 ⟨rfl, b3⟩
    have b3 := b1.trans (b3.mono b1.size)
    cases e3 : isAt l (p + 1) 43
    · go_wp2_with fail
      refine (isq_i a n c l (p + 1) _ (by omega) 45 w3 (h.below b3) hn (by omega)).mono ?_
      rintro e w4 ⟨rfl, b4⟩
      have b4 := b3.trans (b4.mono b3.size)
      cases e4 : isAt l (p + 1) 45
      · go_wp2
        go_ret
        exact ⟨by unfold bMark; rw [if_neg (by simp [e1]), if_neg (by simp [e3, e4])]; go_num, b4⟩
      · go_wp2
        go_ret
        exact ⟨by unfold bMark; rw [if_neg (by simp [e1]), if_pos (.inr e4)]; go_num, b4⟩
    · go_wp2
      go_ret
      exact ⟨by unfold bMark; rw [if_neg (by simp [e1]), if_pos (.inl e3)]; go_num, b3⟩
theorem whole_i (a : Option Addr) (n c : Nat) (l : List Int) (p : Nat) (w : World) (h : Row .i32 w a n c l) (hn : n ≤ 4611686018427387904) (hp : p ≤ 4611686018427387904) :
    Calls Tryz.prog 83 #[.slice a n c, .int .i64 (p : Int)] w fun e w' => e = .returned (.int .i64 (bWhole l p : Nat)) ∧ Below w.heap.size w w' := by
  go_enter Tryz.func83, Tryz.ntmps83
  go_wp2_with fail
  refine (is_i a n c l p 48 w h hn hp).mono ?_
  rintro e w1 ⟨rfl, b1⟩
  cases e1 : isAt l p 48
  · go_wp2_with fail
    refine (digs_i a n c l p w1 (h.below b1) hn hp).mono ?_
    rintro e w2 ⟨rfl, b2⟩
    have b2 := b1.trans (b2.mono b1.size)
    go_wp2
    go_ret
    exact ⟨by unfold bWhole; rw [e1]; rfl, b2⟩
  · go_wp2
    go_ret
    exact ⟨by unfold bWhole; rw [e1]; go_num, b1⟩
theorem wholeq_i (a : Option Addr) (n c : Nat) (l : List Int) (p : Nat) (q : Int) (hq : q = (p : Int)) (w : World) (h : Row .i32 w a n c l) (hn : n ≤ 4611686018427387904) (hp : p ≤ 4611686018427387904) :
    Calls Tryz.prog 83 #[.slice a n c, .int .i64 q] w fun e w' => e = .returned (.int .i64 (bWhole l p : Nat)) ∧ Below w.heap.size w w' := by
  subst hq; exact whole_i a n c l p w h hn hp
theorem part_i (a : Option Addr) (n c : Nat) (l : List Int) (p first : Nat) (w : World) (h : Row .i32 w a n c l) (hn : n ≤ 4611686018427387904) (hp : p ≤ 4611686018427387904) (hf : first ≤ 4611686018427387904) :
    Calls Tryz.prog 84 #[.slice a n c, .int .i64 (p : Int), .int .i64 (first : Int)] w fun e w' => e = .returned (.tuple #[.int .i64 ((bPart l p first).1 : Nat), .int .i64 ((bPart l p first).2 : Nat)]) ∧ Below w.heap.size w w' := by
  go_enter Tryz.func84, Tryz.ntmps84
  by_cases e1 : first = p
  · have e1i : ((first : Int) == (p : Int)) = true := by simp [e1]
    go_wp2
    go_ret2
    exact ⟨by unfold bPart; rw [if_pos e1]; rfl, Below.refl _ _⟩
  · have e1i : ((first : Int) == (p : Int)) = false := by simp; omega
    go_wp2_with fail
    refine (digs_i a n c l first w h hn hf).mono ?_
    rintro e w1 ⟨rfl, b1⟩
    by_cases e2 : digs l first = first
    · have e2i : ((digs l first : Int) == (first : Int)) = true := by simp [e2]
      go_wp2
      go_ret2
      exact ⟨by unfold bPart; rw [if_neg e1, if_pos e2, e2]; rfl, b1⟩
    · have e2i : ((digs l first : Int) == (first : Int)) = false := by simp; omega
      go_wp2
      go_ret2
      exact ⟨by unfold bPart; rw [if_neg e1, if_neg e2]; rfl, b1⟩
set_option maxHeartbeats 1000000 in
theorem prefix_in_i (a : Option Addr) (n c : Nat) (l : List Int) (p : Nat) (w : World) (h : Row .i32 w a n c l) (hn : n ≤ 4611686018427387900) (hp : p ≤ n) :
    Calls Tryz.prog 75 #[.slice a n c, .int .i64 (p : Int)] w fun e w' => e = .returned (.tuple #[.int .i64 ((pfx l p).1 : Nat), .int .i64 ((pfx l p).2.1 : Nat), .int .i64 (pfx l p).2.2]) ∧ Below w.heap.size w w' := by
  go_enter Tryz.func75, Tryz.ntmps75
  have h0 : ¬ (p : Int) < 0 := by omega
  have h1 : ¬ (n : Int) < (p : Int) := by omega
  go_wp2_with fail
  refine (is_i a n c l p 45 w h (by omega) (by omega)).mono ?_
  rintro e w1 ⟨rfl, b1⟩
  cases e1 : isAt l p 45
  · have hF := hide (show pfxFirst l p = p from by unfold pfxFirst; rw [e1]; rfl)
    clear e1
    have HL := hide h.len
    have hF1 := whole_le (l := l) (p := p) (by rw [h.len]; omega)
    rw [h.len] at hF1
    go_wp2_with fail
    refine (wholeq_i a n c l (p) _ (by omega) w1 (h.below b1) (by omega) (by omega)).mono ?_
    rintro e w2 ⟨rfl, b2⟩
    have b2 := b1.trans (b2.mono b1.size)
    by_cases e2 : bWhole l (p) = p
    · have e2i : ((bWhole l (p) : Int) == (p : Int)) = true := by simp; omega
      have HE2 := hide e2
      clear e2
      go_wp2
      go_ret3
      exact ⟨by unfold pfx; rw [unhide hF, if_pos (unhide HE2)]; rfl, b2⟩
    · have e2i : ((bWhole l (p) : Int) == (p : Int)) = false := by simp; omega
      have HP := hide (show pfx l p = ((pfxR l (bWhole l (p))).1, (pfxR l (bWhole l (p))).2, if (pfxR l (bWhole l (p))).1 > bWhole l (p) then 2 else 1) from by unfold pfx; rw [unhide hF, if_neg e2])
      clear e2
      generalize bWhole l (p) = E at *
      have hq1 := point_le (l := l) (p := E) (by rw [unhide HL]; exact hF1)
      have hq2 := part_le (l := l) (p := E) (f := bPoint l E) (by rw [unhide HL]; exact hF1) hq1
      rw [unhide HL] at hq1 hq2
      go_wp2_with fail
      refine (point_i a n c l E w2 (h.below b2) (by omega) (by omega)).mono ?_
      rintro e w3 ⟨rfl, b3⟩
      have b3 := b2.trans (b3.mono b2.size)
      go_wp2_with fail
      refine (part_i a n c l E (bPoint l E) w3 (h.below b3) (by omega) (by omega) (by omega)).mono ?_
      rintro e w4 ⟨rfl, b4⟩
      have b4 := b3.trans (b4.mono b3.size)
      have HR := hide (show pfxR l E = if (bPart l E (bPoint l E)).1 = (bPart l E (bPoint l E)).2 then bPart l (bPart l E (bPoint l E)).1 (bMark l (bPart l E (bPoint l E)).1) else bPart l E (bPoint l E) from rfl)
      clear hq1
      generalize bPart l E (bPoint l E) = R at *
      obtain ⟨R1, R2⟩ := R
      simp only at hq2
      by_cases e3 : R1 = R2
      · have e3i : ((R1 : Int) == (R2 : Int)) = true := by simp; omega
        have HR2 := hide (show pfxR l E = bPart l R1 (bMark l R1) from by rw [unhide HR]; exact if_pos e3)
        clear HR
        clear e3i
        subst e3
        have e3i : ((R1 : Int) == (R1 : Int)) = true := by simp
        have hm1 := mark_le (l := l) (p := R1) (by rw [unhide HL]; exact hq2.1)
        rw [unhide HL] at hm1
        go_wp2_with fail
        refine (mark_i a n c l R1 w4 (h.below b4) (by omega) (by omega)).mono ?_
        rintro e w5 ⟨rfl, b5⟩
        have b5 := b4.trans (b5.mono b4.size)
        go_wp2_with fail
        refine (part_i a n c l R1 (bMark l R1) w5 (h.below b5) (by omega) (by omega) (by omega)).mono ?_
        rintro e w6 ⟨rfl, b6⟩
        have b6 := b5.trans (b6.mono b5.size)
        clear hm1 e3i
        rw [unhide HR2] at HP
        generalize bPart l R1 (bMark l R1) = S at *
        obtain ⟨S1, S2⟩ := S
        by_cases e4 : E < S1
        · have HQ := hide (show pfx l p = (S1, S2, 2) from by rw [unhide HP]; simp [e4])
          have e4i : (E : Int) < (S1 : Int) := by omega
          clear HP HR2
          go_wp2
          go_ret3
          exact ⟨by rw [unhide HQ]; rfl, b6⟩
        · have HQ := hide (show pfx l p = (S1, S2, 1) from by rw [unhide HP]; simp [e4])
          have e4i : ¬ (E : Int) < (S1 : Int) := by omega
          clear HP HR2
          go_wp2
          go_ret3
          exact ⟨by rw [unhide HQ]; rfl, b6⟩
      · have e3i : ((R1 : Int) == (R2 : Int)) = false := by simp; omega
        have HR2 := hide (show pfxR l E = (R1, R2) from by rw [unhide HR]; exact if_neg e3)
        clear HR e3
        rw [unhide HR2] at HP
        by_cases e4 : E < R1
        · have HQ := hide (show pfx l p = (R1, R2, 2) from by rw [unhide HP]; simp [e4])
          have e4i : (E : Int) < (R1 : Int) := by omega
          clear HP HR2
          go_wp2
          go_ret3
          exact ⟨by rw [unhide HQ]; rfl, b4⟩
        · have HQ := hide (show pfx l p = (R1, R2, 1) from by rw [unhide HP]; simp [e4])
          have e4i : ¬ (E : Int) < (R1 : Int) := by omega
          clear HP HR2
          go_wp2
          go_ret3
          exact ⟨by rw [unhide HQ]; rfl, b4⟩
  · have hF := hide (show pfxFirst l p = p + 1 from by unfold pfxFirst; rw [e1]; rfl)
    have hpl := isAt_lt e1
    rw [h.len] at hpl
    clear e1
    have HL := hide h.len
    have hF1 := whole_le (l := l) (p := p + 1) (by rw [h.len]; omega)
    rw [h.len] at hF1
    go_wp2_with fail
    refine (wholeq_i a n c l (p + 1) _ (by omega) w1 (h.below b1) (by omega) (by omega)).mono ?_
    rintro e w2 ⟨rfl, b2⟩
    have b2 := b1.trans (b2.mono b1.size)
    by_cases e2 : bWhole l (p + 1) = p + 1
    · have e2i : ((bWhole l (p + 1) : Int) == ((p : Int) + 1)) = true := by simp; omega
      have HE2 := hide e2
      clear e2
      go_wp2
      go_ret3
      exact ⟨by unfold pfx; rw [unhide hF, if_pos (unhide HE2)]; rfl, b2⟩
    · have e2i : ((bWhole l (p + 1) : Int) == ((p : Int) + 1)) = false := by simp; omega
      have HP := hide (show pfx l p = ((pfxR l (bWhole l (p + 1))).1, (pfxR l (bWhole l (p + 1))).2, if (pfxR l (bWhole l (p + 1))).1 > bWhole l (p + 1) then 2 else 1) from by unfold pfx; rw [unhide hF, if_neg e2])
      clear e2
      generalize bWhole l (p + 1) = E at *
      have hq1 := point_le (l := l) (p := E) (by rw [unhide HL]; exact hF1)
      have hq2 := part_le (l := l) (p := E) (f := bPoint l E) (by rw [unhide HL]; exact hF1) hq1
      rw [unhide HL] at hq1 hq2
      go_wp2_with fail
      refine (point_i a n c l E w2 (h.below b2) (by omega) (by omega)).mono ?_
      rintro e w3 ⟨rfl, b3⟩
      have b3 := b2.trans (b3.mono b2.size)
      go_wp2_with fail
      refine (part_i a n c l E (bPoint l E) w3 (h.below b3) (by omega) (by omega) (by omega)).mono ?_
      rintro e w4 ⟨rfl, b4⟩
      have b4 := b3.trans (b4.mono b3.size)
      have HR := hide (show pfxR l E = if (bPart l E (bPoint l E)).1 = (bPart l E (bPoint l E)).2 then bPart l (bPart l E (bPoint l E)).1 (bMark l (bPart l E (bPoint l E)).1) else bPart l E (bPoint l E) from rfl)
      clear hq1
      generalize bPart l E (bPoint l E) = R at *
      obtain ⟨R1, R2⟩ := R
      simp only at hq2
      by_cases e3 : R1 = R2
      · have e3i : ((R1 : Int) == (R2 : Int)) = true := by simp; omega
        have HR2 := hide (show pfxR l E = bPart l R1 (bMark l R1) from by rw [unhide HR]; exact if_pos e3)
        clear HR
        clear e3i
        subst e3
        have e3i : ((R1 : Int) == (R1 : Int)) = true := by simp
        have hm1 := mark_le (l := l) (p := R1) (by rw [unhide HL]; exact hq2.1)
        rw [unhide HL] at hm1
        go_wp2_with fail
        refine (mark_i a n c l R1 w4 (h.below b4) (by omega) (by omega)).mono ?_
        rintro e w5 ⟨rfl, b5⟩
        have b5 := b4.trans (b5.mono b4.size)
        go_wp2_with fail
        refine (part_i a n c l R1 (bMark l R1) w5 (h.below b5) (by omega) (by omega) (by omega)).mono ?_
        rintro e w6 ⟨rfl, b6⟩
        have b6 := b5.trans (b6.mono b5.size)
        clear hm1 e3i
        rw [unhide HR2] at HP
        generalize bPart l R1 (bMark l R1) = S at *
        obtain ⟨S1, S2⟩ := S
        by_cases e4 : E < S1
        · have HQ := hide (show pfx l p = (S1, S2, 2) from by rw [unhide HP]; simp [e4])
          have e4i : (E : Int) < (S1 : Int) := by omega
          clear HP HR2
          go_wp2
          go_ret3
          exact ⟨by rw [unhide HQ]; rfl, b6⟩
        · have HQ := hide (show pfx l p = (S1, S2, 1) from by rw [unhide HP]; simp [e4])
          have e4i : ¬ (E : Int) < (S1 : Int) := by omega
          clear HP HR2
          go_wp2
          go_ret3
          exact ⟨by rw [unhide HQ]; rfl, b6⟩
      · have e3i : ((R1 : Int) == (R2 : Int)) = false := by simp; omega
        have HR2 := hide (show pfxR l E = (R1, R2) from by rw [unhide HR]; exact if_neg e3)
        clear HR e3
        rw [unhide HR2] at HP
        by_cases e4 : E < R1
        · have HQ := hide (show pfx l p = (R1, R2, 2) from by rw [unhide HP]; simp [e4])
          have e4i : (E : Int) < (R1 : Int) := by omega
          clear HP HR2
          go_wp2
          go_ret3
          exact ⟨by rw [unhide HQ]; rfl, b4⟩
        · have HQ := hide (show pfx l p = (R1, R2, 1) from by rw [unhide HP]; simp [e4])
          have e4i : ¬ (E : Int) < (R1 : Int) := by omega
          clear HP HR2
          go_wp2
          go_ret3
          exact ⟨by rw [unhide HQ]; rfl, b4⟩

end Go.Proofs.YtdmfbahnhkdamaaGreat.mem
namespace Go.Proofs.YtdmfbahnhkdamaaGreat.ints
open Go.ChangeShapes Go.WideShapes Go.ChangeAt Go.RowKit
set_option linter.unusedVariables false

end Go.Proofs.YtdmfbahnhkdamaaGreat.ints
