import Derived.Test.YtgphiollpbahgaaRows
import Derived.WalkKit
import Derived.ProofKit
import Derived.OpenShut
import Derived.ShutString
import Derived.Below
import Derived.Deep.QuietTactic
import Derived.BigQuiet
import Derived.Outline
import Derived.WalkSmall
import Derived.Laws.BytesArg
import Derived.SizedLaws
import Derived.Deep.Matrix
import Derived.Deep.Strs
import Derived.Deep.AppendLies
namespace Go.Proofs.Ytgphiollpbahgaa.ints
open Go.ChangeShapes Go.WideShapes Go.ChangeAt Go.RowKit

theorem hide {p : Prop} (h : p) : Hid p := h
theorem unhide {p : Prop} (h : Hid p) : p := h
theorem within_yes (c a b : Int) (w : World) (h1 : a ≤ c) (h2 : c ≤ b) :
    Calls Try.prog 72 #[.int .i32 c, .int .i32 a, .int .i32 b] w fun e w' => e = .returned (.bool true) ∧ w' = w := by
  go_enter Try.func72, Try.ntmps72
  go_wp2
  go_ret
  exact ⟨rfl, rfl⟩
theorem within_no (c a b : Int) (w : World) (h : ¬ (a ≤ c ∧ c ≤ b)) :
    Calls Try.prog 72 #[.int .i32 c, .int .i32 a, .int .i32 b] w fun e w' => e = .returned (.bool false) ∧ w' = w := by
  by_cases h1 : a ≤ c
  · have h2 : ¬ c ≤ b := by omega
    go_enter Try.func72, Try.ntmps72
    go_wp2
    go_ret
    exact ⟨rfl, rfl⟩
  · go_enter Try.func72, Try.ntmps72
    go_wp2
    go_ret
    exact ⟨rfl, rfl⟩
theorem join_yes (a b : Int) (w : World) (h1 : 55296 ≤ a) (h2 : a ≤ 56319) (h3 : 56320 ≤ b) (h4 : b ≤ 57343) :
    Calls Try.prog 104 #[.int .i32 a, .int .i32 b] w fun e w' => e = .returned (.tuple #[.int .i32 (65536 + (a - 55296) * 1024 + (b - 56320)), .bool true]) ∧ w' = w := by
  go_enter Try.func104, Try.ntmps104
  go_wp2_with (go_at_call 72; refine (within_yes _ _ _ _ (by omega) (by omega)).mono ?_; rintro e w' ⟨rfl, rfl⟩)
  go_ret2
  exact ⟨rfl, rfl⟩
theorem join_no (a b : Int) (w : World) (h : ¬ (55296 ≤ a ∧ a ≤ 56319 ∧ 56320 ≤ b ∧ b ≤ 57343)) :
    Calls Try.prog 104 #[.int .i32 a, .int .i32 b] w fun e w' => e = .returned (.tuple #[.int .i32 0, .bool false]) ∧ w' = w := by
  by_cases h1 : 55296 ≤ a ∧ a ≤ 56319
  · have h2 : ¬ (56320 ≤ b ∧ b ≤ 57343) := by omega
    obtain ⟨h1, h3⟩ := h1
    go_enter Try.func104, Try.ntmps104
    go_wp2_with fail
    refine (within_yes _ _ _ _ h1 h3).mono ?_
    rintro e w' ⟨rfl, rfl⟩
    go_wp2_with fail
    refine (within_no _ _ _ _ h2).mono ?_
    rintro e w' ⟨rfl, rfl⟩
    go_wp2
    go_ret2
    exact ⟨rfl, rfl⟩
  · go_enter Try.func104, Try.ntmps104
    go_wp2_with fail
    refine (within_no _ _ _ _ h1).mono ?_
    rintro e w' ⟨rfl, rfl⟩
    go_wp2
    go_ret2
    exact ⟨rfl, rfl⟩
end Go.Proofs.Ytgphiollpbahgaa.ints
namespace Go.Proofs.Ytgphiollpbahgaa.mem
open Go.ChangeShapes Go.WideShapes Go.ChangeAt Go.RowKit
open ints (hide unhide)
set_option linter.unusedVariables false

/-- What is known of a slice of integers that is only read: its elements. -/
structure Row (k : IntKind) (w : World) (a : Option Addr) (n cap : Nat) (zs : List Int) : Prop where
  len : zs.length = n
  le : n ≤ cap
  nil : a = none → cap = 0
  at_ : n = 0 ∨ ∃ b off, a = some ⟨b, off, none⟩ ∧ b < w.heap.size ∧ ∀ i, i < n → w.cell? ⟨b, off + i, none⟩ = some (.int k (zs.getD i 0))

theorem Row.below {k : IntKind} {w w' : World} {a : Option Addr} {n cap : Nat} {zs : List Int} (h : Row k w a n cap zs) (hb : Below w.heap.size w w') : Row k w' a n cap zs := by
  refine ⟨h.len, h.le, h.nil, ?_⟩
  rcases h.at_ with h0 | ⟨b, off, ha, hlt, hc⟩
  · exact .inl h0
  · exact .inr ⟨b, off, ha, Nat.lt_of_lt_of_le hlt hb.size, fun i hi => (hb.cell (by exact hlt)).trans (hc i hi)⟩
theorem below_drewN {B : Nat} {w wr : World} (h : Below B w wr) (n : Nat) : Below B w (wr.drewN n) := Go.below_drewN h n
theorem Row.cells {k : IntKind} {w : World} {a : Option Addr} {n cap : Nat} {zs : List Int} (h : Row k w a n cap zs) : ∀ ad, a = some ad → ∀ j u, (zs.map (Value.int k))[j]? = some u → w.cell? (ad.add j) = some u := by
  intro ad had j u hu
  have hj : j < n := by
    have := (List.getElem?_eq_some_iff.1 hu).1
    simpa [h.len] using this
  rcases h.at_ with h0 | ⟨b, off, rfl, _, hc⟩
  · omega
  · obtain rfl := Option.some.inj had
    rw [Addr.add_lit, hc j hj]
    have e : (zs.map (Value.int k))[j]? = some (.int k (zs.getD j 0)) := by
      simp [List.getD, show j < zs.length by rw [h.len]; exact hj]
    rw [e] at hu
    exact hu
theorem own_row {k : IntKind} {w : World} {base : Nat} {e : TypeId} {v : Value} {n : Nat} {zs : List Int} (h : w.ownsRow base e 1 v n (zs.map (Value.int k))) :
    ∃ a cap, v = .slice a n cap ∧ Row k w a n cap zs := by
  obtain ⟨h1, h2⟩ := h
  have hl : zs.length = n := by simpa using h1
  rcases h2 with ⟨rfl, rfl⟩ | ⟨g, cap, cur, rfl, hg, hh, hnc, hcm, hcs, hx⟩
  · exact ⟨none, 0, rfl, hl, Nat.le_refl _, fun _ => rfl, .inl rfl⟩
  · refine ⟨_, cap, rfl, hl, hnc, (fun h => by cases h), .inr ⟨g, 0, rfl, (by rcases Nat.lt_or_ge g w.heap.size with h | h; exact h; rw [Array.getElem?_eq_none h] at hh; cases hh), fun i hi => ?_⟩⟩
    rw [World.ownsRow.cellAt (base := base) (e := e) (size := 1) (n := n) (cap := cap) (xs := zs.map (Value.int k)) ⟨h1, .inr ⟨g, cap, cur, rfl, hg, hh, hnc, hcm, hcs, hx⟩⟩ _ (by omega)]
    simp [List.getD, show i < zs.length by omega]
theorem own_below {w w' : World} {base : Nat} {e : TypeId} {size : Nat} {v : Value} {n : Nat} {xs : List Value} (h : w.ownsRow base e size v n xs) (hb : Below w.heap.size w w') : w'.ownsRow base e size v n xs := by
  obtain ⟨h1, h2⟩ := h
  refine ⟨h1, ?_⟩
  rcases h2 with h2 | ⟨g, cap, cur, hv, hg, hh, r⟩
  · exact .inl h2
  · have hl : g < w.heap.size := by rcases Nat.lt_or_ge g w.heap.size with h | h; exact h; rw [Array.getElem?_eq_none h] at hh; cases hh
    exact .inr ⟨g, cap, cur, hv, hg, (hb.block g hl).trans hh, r⟩
theorem belowNone {w w' : World} (h : w.grownBy w' none) : Below w.heap.size w w' := (Below.refl _ _).grown h (Nat.le_refl _) (fun k hk => by cases hk)
theorem getD_ext {xs ys : List Int} (h : xs.length = ys.length) (e : ∀ j, j < xs.length → xs.getD j 0 = ys.getD j 0) : xs = ys := by
  refine List.ext_getElem h fun i h1 h2 => ?_
  have := e i h1
  simpa [List.getD_eq_getElem?_getD, h1, h2] using this

theorem info32 : (Try.prog.info? 21).map (fun i => (i.zero, i.size, i.bytes)) = some (some (.int .i32 0), 1, 4) := by kernel_rfl
theorem info8 : (Try.prog.info? 5).map (fun i => (i.zero, i.size, i.bytes)) = some (some (.int .u8 0), 1, 1) := by kernel_rfl

theorem row_string {P : Program} {w : World} {a : Option Addr} {n c : Nat} {zs : List Int} (h : Row .u8 w a n c zs) (src dst e : TypeId) (hs : P.underlying src = some (.slice e)) (he : P.underlying e = some (.int .u8)) (hd : P.underlying dst = some .string) :
    (convert src dst (.slice a n c)).run P w = .ok (.string (strOfNums zs)) w := by
  rcases h.at_ with h0 | ⟨b, off, rfl, hb, hc⟩
  · subst h0
    have hz : zs = [] := List.eq_nil_of_length_eq_zero h.len
    subst hz
    cases a with
    | none =>
      rw [run_convert_bytes_nil w src e hs he 0 c dst hd]
      rfl
    | some ad =>
      have hl : (loadCells ad 0).run P w = .ok (([] : List Int).map (Value.int .u8)).toArray w := by
        have := run_loadCells_list (P := P) w ad ([] : List Value) (fun j v hj => by simp at hj)
        simpa using this
      rw [run_convert_bytes_string w src dst e _ 0 c hs he hd, run_bytesToString w _ 0 c [] hl]
      rfl
  · exact run_convert_bytes_arg w src e hs he b off n c zs h.len hc dst hd
end Go.Proofs.Ytgphiollpbahgaa.mem
namespace Go.Proofs.Ytgphiollpbahgaa.mem
open Go.ChangeShapes Go.WideShapes Go.ChangeAt Go.RowKit
open ints (hide unhide)
set_option linter.unusedVariables false

theorem row_of_cells {k : IntKind} {w : World} {A : Option Addr} {L C : Nat} {Z : List Int} (h1 : L ≤ C) (h2 : Z.length = C) (h3 : A = none → C = 0) (h4 : ∀ a', A = some a' → ∀ c, c < C → w.cell? (a'.add c) = some (.int k (Z.getD c 0))) :
    Row k w A L C (Z.take L) := by
  refine ⟨by simp; omega, h1, h3, ?_⟩
  by_cases h0 : L = 0
  · exact .inl h0
  · right
    cases A with
    | none => have := h3 rfl; omega
    | some a' =>
      obtain ⟨b, off, spot⟩ := a'
      have hc := h4 _ rfl 0 (by omega)
      have hspot : spot = none := by simpa [Addr.add] using World.cell?_spot hc
      subst hspot
      refine ⟨b, off, rfl, ?_, fun i hi => ?_⟩
      · exact World.block_lt_of_cell? w _ hc
      · have := h4 _ rfl i (by omega)
        rw [Addr.add_lit] at this
        rw [this]
        simp [List.getD, hi]

/-- What is known of a slice of slices that is only read; N: no inner one is longer. -/
structure Rows2 (k : IntKind) (w : World) (a : Option Addr) (n N : Nat) (zss : List (List Int)) : Prop where
  len : zss.length = n
  at_ : n = 0 ∨ ∃ b off, a = some ⟨b, off, none⟩ ∧ b < w.heap.size ∧ ∀ i, i < n → ∃ ai ni ci, w.cell? ⟨b, off + i, none⟩ = some (.slice ai ni ci) ∧ Row k w ai ni ci (zss.getD i []) ∧ ni ≤ N

theorem weights_mem_all {H : Type} {P : Program} {e : TypeId} : ∀ {ds : List (DataW H)} {d : DataW H}, d ∈ ds → ∀ n ∈ d.weights P e, n ∈ DataW.weightsAll P e ds
  | d0 :: ds, d, hd, n, hn => by
    simp only [DataW.weightsAll, List.mem_append]
    rcases List.mem_cons.1 hd with rfl | hd
    · exact .inl hn
    · exact .inr (weights_mem_all hd n hn)

/-- The reading of a slice of slices of integers, opened. 'N': a bound that every inner slice's length keeps, out of the reach. -/
theorem rows2_of {H : Type} {enc : TypeId × Value → H} {P : Program} {w : World} {base : Nat} {held : Bool} {t e q : TypeId} {k : IntKind} {fuel : Nat} {a0 : Option Addr} {len0 cap0 : Nat} {d : DataW H} {p : List MemPlace}
    (ht : P.underlying t = some (.slice e)) (he : P.underlying e = some (.slice q)) (hq : P.underlying q = some (.int k)) (ce : P.cellsOf e = 1) (cq : P.cellsOf q = 1)
    (h : DataW.trod enc P w base (fun _ => true) held fuel t [.slice a0 len0 cap0] = some (d, p)) (N : Nat)
    (hN : ∀ n, n ∈ d.weights P t → n ≤ N * P.bytesOf q) (hb : 0 < P.bytesOf q) : ∃ zss, Rows2 k w a0 len0 N zss ∧ len0 ≤ maxLen := by
  rcases Go.Deep.open_int_rows ht he hq ce cq h with ⟨hcs, _⟩ | ⟨a, len, cap, A, L, C, Z, hcs, _, hl, hm, hx, hcell⟩
  · simp at hcs
    obtain ⟨rfl, rfl, rfl⟩ := hcs
    exact ⟨[], ⟨rfl, .inl rfl⟩, by unfold maxLen; omega⟩
  · simp at hcs
    obtain ⟨rfl, rfl, rfl⟩ := hcs
    simp only [Prod.mk.injEq] at hx
    obtain ⟨hd, _⟩ := hx
    refine ⟨(List.range len0).map fun r => (Z r).take (L r), ⟨by simp, ?_⟩, by omega⟩
    by_cases h0 : len0 = 0
    · exact .inl h0
    · right
      obtain ⟨b, off, spot⟩ := a
      have hc := (hcell 0 (by omega)).1
      have hspot : spot = none := by simpa [Addr.add] using World.cell?_spot hc
      subst hspot
      refine ⟨b, off, rfl, World.block_lt_of_cell? w _ hc, fun i hi => ?_⟩
      obtain ⟨c1, c2, c3, c4, c5, c6, c7⟩ := hcell i (by omega)
      rw [Addr.add_lit] at c1
      have hrow := row_of_cells (k := k) (w := w) c2 c4 c6 (fun a' ha c hc => (c7 a' ha).2 c hc)
      refine ⟨A i, L i, C i, c1, by simpa [List.getD, hi] using hrow, ?_⟩
      cases hA : A i with
      | none => have := c6 hA; omega
      | some a' =>
        have hmem : (C i) * P.bytesOf q ∈ d.weights P t := by
          rw [hd]
          simp only [DataW.weights, ht]
          refine List.mem_cons_of_mem _ (List.mem_append_left _ ?_)
          refine weights_mem_all (d := Go.Deep.intRow k (A i) (L i) (Z i)) (List.mem_map.2 ⟨i, by simp [hi], rfl⟩) _ ?_
          simp only [Go.Deep.intRow, hA, DataW.weights, he]
          refine List.mem_cons.2 (.inl ?_)
          simp only [lits, List.length_map, List.length_take, List.length_drop]
          rw [show min (L i) (Z i).length + ((Z i).length - L i) = C i from by omega]
        have := hN _ hmem
        have := Nat.le_of_mul_le_mul_right this hb
        omega
end Go.Proofs.Ytgphiollpbahgaa.mem
namespace Go.Proofs.Ytgphiollpbahgaa.mem
open Go.ChangeShapes Go.WideShapes Go.ChangeAt Go.RowKit
open ints (hide unhide)
set_option linter.unusedVariables false

theorem bulk_pos {H : Type} (d : DataW H) : 1 ≤ Rows.uptoBulk d := by
  cases d with
  | lit l => cases l <;> simp [Rows.uptoBulk]
  | _ => simp [Rows.uptoBulk]
theorem bulk_mem {H : Type} {d : DataW H} : ∀ {l : List (DataW H)}, d ∈ l → Rows.uptoBulk d ≤ Rows.uptoBulkAll l
  | x :: r, h => by
    simp only [Rows.uptoBulkAll]
    rcases List.mem_cons.1 h with e | e
    · subst e; omega
    · have := bulk_mem e; omega
theorem bulk_len {H : Type} : ∀ (l : List (DataW H)), l.length ≤ Rows.uptoBulkAll l
  | [] => by simp [Rows.uptoBulkAll]
  | x :: r => by
    have := bulk_len r
    have := bulk_pos x
    simp only [Rows.uptoBulkAll, List.length_cons]
    omega
theorem bulk_slice {H : Type} (e s : List (DataW H)) : e.length + s.length ≤ Rows.uptoBulk (.slice e s) := by
  have := bulk_len e
  have := bulk_len s
  simp only [Rows.uptoBulk]
  omega
theorem bulk_elems {H : Type} (e s : List (DataW H)) : Rows.uptoBulkAll e ≤ Rows.uptoBulk (.slice e s) := by
  simp only [Rows.uptoBulk]
  omega
theorem bulk_le {H : Type} {l : List (DataW H)} (hk : Rows.uptoSmall H l = true) : Rows.uptoBulkAll l ≤ 1048576 := of_decide_eq_true hk

theorem wf_byt {zs : List Int} (h : ∀ z ∈ zs, (Lit.int .u8 z).wf = true) : ∀ z ∈ zs, 0 ≤ z ∧ z ≤ 255 := fun z hz => by
  simpa [Lit.wf, IntKind.min, IntKind.max, IntKind.signed, IntKind.bits] using h z hz

/-- The reading of a slice of integers, opened, its length bounded by its bulk. -/
theorem row_of {H : Type} {enc : TypeId × Value → H} {P : Program} {w : World} {base : Nat} {held : Bool} {t q : TypeId} {k : IntKind} {fuel : Nat} {a0 : Option Addr} {len0 cap0 : Nat} {d : DataW H} {p : List MemPlace}
    (ht : P.underlying t = some (.slice q)) (hq : P.underlying q = some (.int k)) (cq : P.cellsOf q = 1)
    (h : DataW.trod enc P w base (fun _ => true) held fuel t [.slice a0 len0 cap0] = some (d, p)) :
    ∃ zs, Row k w a0 len0 cap0 zs ∧ (∀ z ∈ zs, (Lit.int k z).wf = true) ∧ len0 ≤ Rows.uptoBulk d := by
  rcases open_ints ht hq cq h with ⟨hcs, _⟩ | ⟨x, l, c, zs, hcs, _, hl, hm, hz, hx, hcell, hwz⟩
  · simp at hcs
    obtain ⟨rfl, rfl, rfl⟩ := hcs
    exact ⟨[], ⟨rfl, Nat.le_refl _, fun _ => rfl, .inl rfl⟩, by simp, Nat.zero_le _⟩
  · simp at hcs
    obtain ⟨rfl, rfl, rfl⟩ := hcs
    simp only [if_true] at hz
    simp only [Prod.mk.injEq] at hx
    refine ⟨zs.take len0, row_of_cells hl hz (fun e => by cases e) (fun a' ha c hc => ?_), fun z hz' => hwz z (List.mem_of_mem_take hz'), ?_⟩
    · obtain rfl := Option.some.inj ha
      exact hcell c (by rw [hz]; exact hc)
    · rw [hx.1]
      refine Nat.le_trans ?_ (bulk_slice _ _)
      simp [lits]
      omega

/-- The reading of a slice of slices of integers, opened, the inner lengths bounded by the bulk. -/
theorem rows2_bulk {H : Type} {enc : TypeId × Value → H} {P : Program} {w : World} {base : Nat} {held : Bool} {t e q : TypeId} {k : IntKind} {fuel : Nat} {a0 : Option Addr} {len0 cap0 : Nat} {d : DataW H} {p : List MemPlace}
    (ht : P.underlying t = some (.slice e)) (he : P.underlying e = some (.slice q)) (hq : P.underlying q = some (.int k)) (ce : P.cellsOf e = 1) (cq : P.cellsOf q = 1)
    (h : DataW.trod enc P w base (fun _ => true) held fuel t [.slice a0 len0 cap0] = some (d, p)) :
    ∃ zss, Rows2 k w a0 len0 (Rows.uptoBulk d) zss ∧ len0 ≤ Rows.uptoBulk d ∧ ∀ i, ∀ z ∈ zss.getD i [], (Lit.int k z).wf = true := by
  rcases Go.Deep.open_int_rows ht he hq ce cq h with ⟨hcs, _⟩ | ⟨a, len, cap, A, L, C, Z, hcs, _, hl, hm, hx, hcell⟩
  · simp at hcs
    obtain ⟨rfl, rfl, rfl⟩ := hcs
    exact ⟨[], ⟨rfl, .inl rfl⟩, Nat.zero_le _, by simp⟩
  · simp at hcs
    obtain ⟨rfl, rfl, rfl⟩ := hcs
    simp only [Prod.mk.injEq] at hx
    obtain ⟨hd, _⟩ := hx
    refine ⟨(List.range len0).map fun r => (Z r).take (L r), ⟨by simp, ?_⟩, ?_, ?_⟩
    · by_cases h0 : len0 = 0
      · exact .inl h0
      · right
        obtain ⟨b, off, spot⟩ := a
        have hc := (hcell 0 (by omega)).1
        have hspot : spot = none := by simpa [Addr.add] using World.cell?_spot hc
        subst hspot
        refine ⟨b, off, rfl, World.block_lt_of_cell? w _ hc, fun i hi => ?_⟩
        obtain ⟨c1, c2, c3, c4, c5, c6, c7⟩ := hcell i (by omega)
        rw [Addr.add_lit] at c1
        have hrow := row_of_cells (k := k) (w := w) c2 c4 c6 (fun a' ha c hc => (c7 a' ha).2 c hc)
        refine ⟨A i, L i, C i, c1, by simpa [List.getD, hi] using hrow, ?_⟩
        cases hA : A i with
        | none => have := c6 hA; omega
        | some a' =>
          have h1 : Rows.uptoBulk (Go.Deep.intRow (H := H) k (A i) (L i) (Z i)) ≤ Rows.uptoBulk d := by
            rw [hd]
            exact Nat.le_trans (bulk_mem (List.mem_map.2 ⟨i, by simp [hi], rfl⟩)) (bulk_elems _ _)
          refine Nat.le_trans ?_ h1
          simp only [Go.Deep.intRow, hA]
          refine Nat.le_trans ?_ (bulk_slice _ _)
          simp [lits]
          omega
    · rw [hd]
      refine Nat.le_trans ?_ (bulk_slice _ _)
      simp
    · intro i z hz
      by_cases hi : i < len0
      · have : z ∈ (Z i).take (L i) := by simpa [List.getD, hi] using hz
        exact (hcell i (by omega)).2.2.2.2.1 z (List.mem_of_mem_take this)
      · simp [List.getD, hi] at hz
end Go.Proofs.Ytgphiollpbahgaa.mem
namespace Go.Proofs.Ytgphiollpbahgaa.dt
open Go.ChangeShapes Go.WideShapes Go.ChangeAt Go.RowKit
set_option linter.unusedVariables false
set_option linter.unusedSimpArgs false
/-- What lies in memory as a tree of structs: a row of cells, some of them lists of rows. -/
inductive Dt where
  | nil
  | val (v : Value) (r : Dt)
  | lst (k : Nat) (rs : Dt) (r : Dt)
  | row (e : Dt) (r : Dt)
def RowAt (w : World) (b off : Nat) (cs : List Value) : Prop := ∀ i u, cs[i]? = some u → w.cell? ⟨b, off + i, none⟩ = some u
def Agree (F : List Nat) (w w' : World) : Prop := ∀ b ∈ F, ∀ o, w'.cell? ⟨b, o, none⟩ = w.cell? ⟨b, o, none⟩
theorem Agree.left {F G : List Nat} {w w' : World} (h : Agree (F ++ G) w w') : Agree F w w' := fun b hb => h b (List.mem_append_left _ hb)
theorem Agree.right {F G : List Nat} {w w' : World} (h : Agree (F ++ G) w w') : Agree G w w' := fun b hb => h b (List.mem_append_right _ hb)
theorem Agree.tail {p : Nat} {G : List Nat} {w w' : World} (h : Agree (p :: G) w w') : Agree G w w' := fun b hb => h b (List.mem_cons_of_mem _ hb)
theorem Agree.of_below {F : List Nat} {w w' : World} (h : Below w.heap.size w w') (hF : ∀ b ∈ F, b < w.heap.size) : Agree F w w' := fun b hb o => h.cell (p := ⟨b, o, none⟩) (hF b hb)
theorem Agree.trans {F : List Nat} {w w' w'' : World} (h : Agree F w w') (h' : Agree F w' w'') : Agree F w w'' := fun b hb o => (h' b hb o).trans (h b hb o)
theorem RowAt.agree {w w' : World} {F : List Nat} {b off : Nat} {cs : List Value} (h : RowAt w b off cs) (hb : b ∈ F) (ha : Agree F w w') : RowAt w' b off cs := fun i u hu => (ha b hb _).trans (h i u hu)
theorem RowAt.below {w w' : World} {b off : Nat} {cs : List Value} (h : RowAt w b off cs) (hb : Below w.heap.size w w') : RowAt w' b off cs := by
  intro i u hu
  have h1 := h i u hu
  exact (hb.cell (World.block_lt_of_cell? w _ h1)).trans h1
mutual
/-- these cells are the row d, all its lists in blocks of their own, F -/
def Ow (w : World) : Dt → List Value → List Nat → Prop
  | .nil, cs, F => cs = [] ∧ F = []
  | .val v r, cs, F => ∃ ds, cs = v :: ds ∧ v.oneCell' = true ∧ Ow w r ds F
  | .lst k rs r, cs, F => ∃ (a : Option Addr) (n c : Nat) (ds : List Value) (F1 F2 : List Nat), cs = .slice a n c :: ds ∧ n ≤ c ∧ c ≤ maxLen ∧ (a = none → c = 0) ∧
      ((a = none ∧ rs = .nil ∧ n = 0 ∧ F1 = []) ∨ ∃ p G, a = some ⟨p, 0, none⟩ ∧ F1 = p :: G ∧ OwIn w rs k p 0 n G) ∧ Ow w r ds F2 ∧ F = F1 ++ F2
  | .row _ _, _, _ => False
def OwIn (w : World) : Dt → Nat → Nat → Nat → Nat → List Nat → Prop
  | .nil, k, p, off, n, G => n = 0 ∧ G = []
  | .row e r, k, p, off, n, G => ∃ (m : Nat) (cs : List Value) (G1 G2 : List Nat), n = m + 1 ∧ RowAt w p off cs ∧ cs.length = k ∧ Ow w e cs G1 ∧ OwIn w r k p (off + k) m G2 ∧ G = G1 ++ G2
  | .val _ _, _, _, _, _, _ => False
  | .lst _ _ _, _, _, _, _, _ => False
end
mutual
theorem Ow.agree {w w' : World} : ∀ (d : Dt) (cs : List Value) (F : List Nat), Agree F w w' → Ow w d cs F → Ow w' d cs F
  | .nil, cs, F, ha, h => by unfold Ow at h ⊢; exact h
  | .val v r, cs, F, ha, h => by
    unfold Ow at h ⊢
    obtain ⟨ds, rfl, h1, h2⟩ := h
    exact ⟨ds, rfl, h1, Ow.agree r ds F ha h2⟩
  | .lst k rs r, cs, F, ha, h => by
    unfold Ow at h ⊢
    obtain ⟨a, n, c, ds, F1, F2, rfl, h1, h2, h3, h4, h5, rfl⟩ := h
    refine ⟨a, n, c, ds, F1, F2, rfl, h1, h2, h3, ?_, Ow.agree r ds F2 ha.right h5, rfl⟩
    rcases h4 with h4 | ⟨p, G, e1, rfl, h4⟩
    · exact .inl h4
    · exact .inr ⟨p, G, e1, rfl, OwIn.agree rs k p 0 n G ha.left h4⟩
  | .row _ _, cs, F, ha, h => by unfold Ow at h; exact h.elim
theorem OwIn.agree {w w' : World} : ∀ (d : Dt) (k p off n : Nat) (G : List Nat), Agree (p :: G) w w' → OwIn w d k p off n G → OwIn w' d k p off n G
  | .nil, k, p, off, n, G, ha, h => by unfold OwIn at h ⊢; exact h
  | .row e r, k, p, off, n, G, ha, h => by
    unfold OwIn at h ⊢
    obtain ⟨m, cs, G1, G2, rfl, h1, h2, h3, h4, rfl⟩ := h
    exact ⟨m, cs, G1, G2, rfl, h1.agree (List.mem_cons_self ..) ha, h2, Ow.agree e cs G1 ha.tail.left h3, OwIn.agree r k p _ m G2 (fun b hb => ha b (by simp at hb ⊢; rcases hb with hb | hb <;> simp [hb])) h4, rfl⟩
  | .val _ _, k, p, off, n, G, ha, h => by unfold OwIn at h; exact h.elim
  | .lst _ _ _, k, p, off, n, G, ha, h => by unfold OwIn at h; exact h.elim
end
theorem Ow.one {w : World} : ∀ (d : Dt) (cs : List Value) (F : List Nat), Ow w d cs F → ∀ u ∈ cs, u.oneCell' = true
  | .nil, cs, F, h => by unfold Ow at h; rw [h.1]; simp
  | .val v r, cs, F, h => by
    unfold Ow at h
    obtain ⟨ds, rfl, h1, h2⟩ := h
    intro u hu
    rcases List.mem_cons.1 hu with rfl | hu
    · exact h1
    · exact Ow.one r ds F h2 u hu
  | .lst k rs r, cs, F, h => by
    unfold Ow at h
    obtain ⟨a, n, c, ds, F1, F2, rfl, h1, h2, h3, h4, h5, rfl⟩ := h
    intro u hu
    rcases List.mem_cons.1 hu with rfl | hu
    · rfl
    · exact Ow.one r ds F2 h5 u hu
  | .row _ _, cs, F, h => by unfold Ow at h; exact h.elim
/-- the width of a row -/
def Dt.wid : Dt → Nat
  | .nil => 0
  | .val _ r => r.wid + 1
  | .lst _ _ r => r.wid + 1
  | .row _ _ => 0
theorem Ow.wid {w : World} : ∀ (d : Dt) (cs : List Value) (F : List Nat), Ow w d cs F → cs.length = d.wid
  | .nil, cs, F, h => by unfold Ow at h; rw [h.1]; rfl
  | .val v r, cs, F, h => by
    unfold Ow at h
    obtain ⟨ds, rfl, h1, h2⟩ := h
    simp only [List.length_cons, Dt.wid, Ow.wid r ds F h2]
  | .lst k rs r, cs, F, h => by
    unfold Ow at h
    obtain ⟨a, n, c, ds, F1, F2, rfl, h1, h2, h3, h4, h5, rfl⟩ := h
    simp only [List.length_cons, Dt.wid, Ow.wid r ds F2 h5]
  | .row _ _, cs, F, h => by unfold Ow at h; exact h.elim
/-- a list of rows, as a chain -/
def Dt.of : List Dt → Dt
  | [] => .nil
  | e :: r => .row e (Dt.of r)
/-- the i-th of a list -/
theorem OwIn.get {w : World} : ∀ (l : List Dt) (k p off n : Nat) (G : List Nat), OwIn w (Dt.of l) k p off n G → l.length = n ∧ ∀ (i : Nat) (e : Dt), l[i]? = some e → ∃ cs Gi, RowAt w p (off + i * k) cs ∧ cs.length = k ∧ Ow w e cs Gi ∧ ∀ b ∈ Gi, b ∈ G
  | [], k, p, off, n, G, h => by
    unfold Dt.of OwIn at h
    exact ⟨h.1.symm, fun i e he => by simp at he⟩
  | d :: l, k, p, off, n, G, h => by
    unfold Dt.of OwIn at h
    obtain ⟨m, cs, G1, G2, rfl, h1, h2, h3, h4, rfl⟩ := h
    obtain ⟨h5, h6⟩ := OwIn.get l k p _ m G2 h4
    refine ⟨by simp [h5], fun i e he => ?_⟩
    cases i with
    | zero => simp at he; subst he; exact ⟨cs, G1, by simpa using h1, h2, h3, fun b hb => List.mem_append_left _ hb⟩
    | succ i =>
      obtain ⟨cs', Gi, h7, h8, h9, h10⟩ := h6 i e (by simpa using he)
      exact ⟨cs', Gi, by rw [show off + (i + 1) * k = off + k + i * k by rw [Nat.add_mul]; omega]; exact h7, h8, h9, fun b hb => List.mem_append_right _ (h10 b hb)⟩
/-- a list of things that are owned, each in so many cells -/
def OwL {E : Type} (O : World → E → List Value → List Nat → Prop) (w : World) : List E → List (List Value) → List Nat → Prop
  | [], xss, G => xss = [] ∧ G = []
  | v :: r, xss, G => ∃ cs l G1 G2, xss = cs :: l ∧ O w v cs G1 ∧ OwL O w r l G2 ∧ G = G1 ++ G2
theorem OwL.snoc {E : Type} {O : World → E → List Value → List Nat → Prop} {w : World} {v : E} {cs : List Value} {G' : List Nat} (hv : O w v cs G') : ∀ {l : List E} {xss : List (List Value)} {G : List Nat}, OwL O w l xss G → OwL O w (l ++ [v]) (xss ++ [cs]) (G ++ G')
  | [], xss, G, h => by
    obtain ⟨rfl, rfl⟩ := h
    exact ⟨cs, [], G', [], rfl, hv, ⟨rfl, rfl⟩, by simp⟩
  | u :: r, xss, G, h => by
    obtain ⟨ds, l, G1, G2, rfl, h1, h2, rfl⟩ := h
    exact ⟨ds, l ++ [cs], G1, G2 ++ G', rfl, h1, OwL.snoc hv h2, by simp⟩
theorem OwL.agree {E : Type} {O : World → E → List Value → List Nat → Prop} (ha : ∀ w w' e cs F, Agree F w w' → O w e cs F → O w' e cs F) {w w' : World} : ∀ {l : List E} {xss : List (List Value)} {G : List Nat}, Agree G w w' → OwL O w l xss G → OwL O w' l xss G
  | [], xss, G, hg, h => h
  | u :: r, xss, G, hg, h => by
    obtain ⟨ds, l, G1, G2, rfl, h1, h2, rfl⟩ := h
    exact ⟨ds, l, G1, G2, rfl, ha w w' u ds G1 hg.left h1, OwL.agree ha hg.right h2, rfl⟩
/-- rows that lie one behind another are a list -/
theorem OwL.shut {w : World} {k p : Nat} : ∀ (l : List Dt) (xss : List (List Value)) (G : List Nat) (off : Nat), OwL Ow w l xss G → (∀ xs ∈ xss, xs.length = k) → RowAt w p off xss.flatten → OwIn w (Dt.of l) k p off l.length G
  | [], xss, G, off, h, hk, hr => by
    obtain ⟨rfl, rfl⟩ := h
    unfold Dt.of OwIn
    exact ⟨rfl, rfl⟩
  | e :: l, xss, G, off, h, hk, hr => by
    obtain ⟨cs, r, G1, G2, rfl, h1, h2, rfl⟩ := h
    have hc := hk cs (List.mem_cons_self ..)
    unfold Dt.of OwIn
    refine ⟨l.length, cs, G1, G2, by simp, fun i u hu => hr i u ?_, hc, h1, OwL.shut l r G2 (off + k) h2 (fun xs hx => hk xs (List.mem_cons_of_mem _ hx)) (fun i u hu => ?_), rfl⟩
    · have : i < cs.length := (List.getElem?_eq_some_iff.1 hu).1
      rw [List.flatten_cons, List.getElem?_append_left this]; exact hu
    · have := hr (k + i) u (by rw [List.flatten_cons, List.getElem?_append_right (by omega), hc]; rw [show k + i - k = i by omega]; exact hu)
      rw [← Nat.add_assoc] at this
      exact this
end Go.Proofs.Ytgphiollpbahgaa.dt
namespace Go.Proofs.Ytgphiollpbahgaa.cu
open dt (Dt)
set_option linter.unusedVariables false
set_option linter.unusedSimpArgs false
/-- a token -/
structure Tk where
  k : Int
  ln : Int
  co : Int
  fr : Nat
  to : Nat
  tx : ByteArray
  va : ByteArray
def em : ByteArray := ⟨#[]⟩
def Tk.zero : Tk := ⟨0, 0, 0, 0, 0, em, em⟩
def Tk.cells (t : Tk) : List Value := [.int .i64 t.k, .int .i64 t.ln, .int .i64 t.co, .int .i64 t.fr, .int .i64 t.to, .string t.tx, .string t.va]
/-- a cursor -/
structure Cu where
  ts : List Tk
  ix : Nat
  op : Nat
  mo : Nat
  kd : Int
def Cu.tok (c : Cu) : Tk := c.ts.getD c.ix Tk.zero
structure Cu.Ok (c : Cu) : Prop where
  lt : c.ix < c.ts.length
  more : ∀ i t, c.ts[i]? = some t → t.k = 0 ∨ t.k = 1 ∨ i + 1 < c.ts.length
  op : c.op ≤ c.mo
  mo : c.mo ≤ 200
theorem Cu.get (c : Cu) (h : c.ix < c.ts.length) : c.ts[c.ix]? = some c.tok := by
  unfold Cu.tok
  rw [List.getElem?_eq_getElem h, List.getD_eq_getElem?_getD, List.getElem?_eq_getElem h]
  rfl
def Cu.isP (c : Cu) (p : ByteArray) : Bool := decide (c.kd = 0 ∧ c.tok.k = 2 ∧ c.tok.tx = p)
def Cu.isN (c : Cu) : Bool := decide (c.kd = 0 ∧ c.tok.k = 3)
def Cu.take (c : Cu) : Cu := ⟨c.ts, c.ix + 1, c.op, c.mo, c.kd⟩
def Cu.stop (c : Cu) (k : Int) : Cu := if c.kd = 0 then ⟨c.ts, c.ix, c.op, c.mo, k⟩ else c
def Cu.punct (c : Cu) (p : ByteArray) : Cu := if c.isP p then c.take else c
def Cu.want (c : Cu) (p : ByteArray) : Cu := if c.isP p then c.take else c.stop 70
def Cu.name (c : Cu) : Cu := if c.isN then c.take else c.stop 70
def Cu.nmT (c : Cu) : List Value := if c.isN then [.string c.tok.tx, .int .i64 c.tok.ln, .int .i64 c.tok.co] else [.string em, .int .i64 0, .int .i64 0]
def Cu.opB (c : Cu) (p : ByteArray) : Bool := c.isP p && decide (c.op < c.mo)
def Cu.opn (c : Cu) (p : ByteArray) : Cu := if c.isP p then (if c.op < c.mo then ⟨c.ts, c.ix + 1, c.op + 1, c.mo, c.kd⟩ else c.stop 71) else c.stop 70
def Cu.cls (c : Cu) (p : ByteArray) : Cu := if c.isP p then ⟨c.ts, c.ix + 1, c.op - 1, c.mo, c.kd⟩ else c.stop 70
def Cu.finB (c : Cu) : Bool := decide (c.kd = 0 ∧ c.tok.k = 0)
def Cu.fin (c : Cu) : Cu := if c.finB then c else c.stop 70
/-- what every step keeps -/
structure Stp (c c' : Cu) : Prop where
  ok : c'.Ok
  ts : c'.ts = c.ts
  mo : c'.mo = c.mo
  ix : c.ix ≤ c'.ix
theorem Stp.refl {c : Cu} (h : c.Ok) : Stp c c := ⟨h, rfl, rfl, Nat.le_refl _⟩
theorem Stp.trans {a b c : Cu} (h : Stp a b) (k : Stp b c) : Stp a c := ⟨k.ok, k.ts.trans h.ts, k.mo.trans h.mo, Nat.le_trans h.ix k.ix⟩
theorem stop_stp {c : Cu} (h : c.Ok) (k : Int) : Stp c (c.stop k) := by
  unfold Cu.stop
  split
  · exact ⟨⟨h.lt, h.more, h.op, h.mo⟩, rfl, rfl, Nat.le_refl _⟩
  · exact Stp.refl h
theorem more_of {c : Cu} (h : c.Ok) (h0 : c.tok.k ≠ 0) (h1 : c.tok.k ≠ 1) : c.ix + 1 < c.ts.length := by
  rcases h.more c.ix c.tok (c.get h.lt) with e | e | e
  · exact absurd e h0
  · exact absurd e h1
  · exact e
theorem isP_k {c : Cu} {p : ByteArray} (h : c.isP p = true) : c.kd = 0 ∧ c.tok.k = 2 ∧ c.tok.tx = p := of_decide_eq_true h
theorem isN_k {c : Cu} (h : c.isN = true) : c.kd = 0 ∧ c.tok.k = 3 := of_decide_eq_true h
theorem take_stp {c : Cu} (h : c.Ok) (h0 : c.tok.k ≠ 0) (h1 : c.tok.k ≠ 1) : Stp c c.take := ⟨⟨more_of h h0 h1, h.more, h.op, h.mo⟩, rfl, rfl, Nat.le_succ _⟩
theorem isP_more {c : Cu} {p : ByteArray} (h : c.Ok) (hp : c.isP p = true) : c.ix + 1 < c.ts.length := by
  have := (isP_k hp).2.1
  exact more_of h (by rw [this]; decide) (by rw [this]; decide)
theorem isN_more {c : Cu} (h : c.Ok) (hp : c.isN = true) : c.ix + 1 < c.ts.length := by
  have := (isN_k hp).2
  exact more_of h (by rw [this]; decide) (by rw [this]; decide)
theorem takeP {c : Cu} {p : ByteArray} (h : c.Ok) (hp : c.isP p = true) : Stp c c.take := ⟨⟨isP_more h hp, h.more, h.op, h.mo⟩, rfl, rfl, Nat.le_succ _⟩
theorem takeN {c : Cu} (h : c.Ok) (hp : c.isN = true) : Stp c c.take := ⟨⟨isN_more h hp, h.more, h.op, h.mo⟩, rfl, rfl, Nat.le_succ _⟩
theorem punct_stp {c : Cu} (h : c.Ok) (p : ByteArray) : Stp c (c.punct p) := by
  unfold Cu.punct
  split
  · exact takeP h ‹_›
  · exact Stp.refl h
theorem want_stp {c : Cu} (h : c.Ok) (p : ByteArray) : Stp c (c.want p) := by
  unfold Cu.want
  split
  · exact takeP h ‹_›
  · exact stop_stp h _
theorem name_stp {c : Cu} (h : c.Ok) : Stp c c.name := by
  unfold Cu.name
  split
  · exact takeN h ‹_›
  · exact stop_stp h _
theorem opn_stp {c : Cu} (h : c.Ok) (p : ByteArray) : Stp c (c.opn p) := by
  unfold Cu.opn
  split
  · split
    · exact ⟨⟨isP_more h ‹_›, h.more, by show c.op + 1 ≤ c.mo; omega, h.mo⟩, rfl, rfl, Nat.le_succ _⟩
    · exact stop_stp h _
  · exact stop_stp h _
theorem opn_ix {c : Cu} {p : ByteArray} (h : c.opB p = true) : (c.opn p).ix = c.ix + 1 := by
  unfold Cu.opB at h
  simp only [Bool.and_eq_true, decide_eq_true_eq] at h
  unfold Cu.opn
  rw [if_pos h.1, if_pos h.2]
theorem cls_stp {c : Cu} (h : c.Ok) (p : ByteArray) : Stp c (c.cls p) := by
  unfold Cu.cls
  split
  · exact ⟨⟨isP_more h ‹_›, h.more, by have := h.op; show c.op - 1 ≤ c.mo; omega, h.mo⟩, rfl, rfl, Nat.le_succ _⟩
  · exact stop_stp h _
theorem fin_stp {c : Cu} (h : c.Ok) : Stp c c.fin := by
  unfold Cu.fin
  split
  · exact Stp.refl h
  · exact stop_stp h _
def bLb : ByteArray := ⟨#[91]⟩
def bRb : ByteArray := ⟨#[93]⟩
def bLc : ByteArray := ⟨#[123]⟩
def bRc : ByteArray := ⟨#[125]⟩
def bBang : ByteArray := ⟨#[33]⟩
def bDol : ByteArray := ⟨#[36]⟩
def bCol : ByteArray := ⟨#[58]⟩
def bTrue : ByteArray := ⟨#[116, 114, 117, 101]⟩
def bFalse : ByteArray := ⟨#[102, 97, 108, 115, 101]⟩
def bNull : ByteArray := ⟨#[110, 117, 108, 108]⟩
/-- a type's reference, up to its own mark -/
def unm (T : Cu → Option (ByteArray × ByteArray) × Cu) (c : Cu) : Option (ByteArray × ByteArray) × Cu :=
  if c.isP bLb then
    (if c.opB bLb then
      (match (T (c.opn bLb)).1 with
      | none => (none, (T (c.opn bLb)).2)
      | some it => if (T (c.opn bLb)).2.isP bRb then (some (it.1, it.2 ++ bRb), (T (c.opn bLb)).2.cls bRb) else (none, (T (c.opn bLb)).2.cls bRb))
    else (none, c.opn bLb))
  else if c.isN then (some (c.tok.tx, em), c.name) else (none, c.name)
def typ (U : Cu → Option (ByteArray × ByteArray) × Cu) (c : Cu) : Option (ByteArray × ByteArray) × Cu :=
  match (U c).1 with
  | none => (none, (U c).2)
  | some r => if (U c).2.isP bBang then (some (r.1, r.2 ++ bBang), (U c).2.punct bBang) else (some r, (U c).2.punct bBang)
def typF : Nat → Cu → Option (ByteArray × ByteArray) × Cu
  | 0, c => (none, c)
  | f + 1, c => typ (unm (typF f)) c
/-- literals -/
def litD (k : Int) (tx : ByteArray) (bl : Bool) (its fls : Dt) (ln co : Int) : Dt := .val (.int .i64 k) (.val (.string tx) (.val (.bool bl) (.lst 7 its (.lst 10 fls (.val (.int .i64 ln) (.val (.int .i64 co) .nil))))))
def app : Dt → Dt → Dt
  | .nil, e => e
  | .val v r, e => .val v (app r e)
  | .lst k rs r, e => .lst k rs (app r e)
  | .row a b, e => .row a b
def fldD (nm : ByteArray) (v : Dt) (ln co : Int) : Dt := .val (.string nm) (app v (.val (.int .i64 ln) (.val (.int .i64 co) .nil)))
def brkF (E : Cu → Option Dt × Cu) (right : ByteArray) (least : Nat) : Nat → List Dt → Cu → Option (List Dt) × Cu
  | 0, l, c => (none, c)
  | g + 1, l, c => if l.length < least ∨ c.isP right = false then (match (E c).1 with | none => (none, (E c).2) | some d => brkF E right least g (l ++ [d]) (E c).2) else (some l, c.cls right)
def brk (E : Cu → Option Dt × Cu) (left right : ByteArray) (least : Nat) (c : Cu) : Option (List Dt) × Cu :=
  if c.opB left then brkF E right least c.ts.length [] (c.opn left) else (none, c.opn left)
def argS (L : Cu → Option Dt × Cu) (c : Cu) : Option Dt × Cu :=
  match (L (c.name.want bCol)).1 with
  | none => (none, (L (c.name.want bCol)).2)
  | some v => (some (fldD c.tok.tx v c.tok.ln c.tok.co), (L (c.name.want bCol)).2)
def wordD (t : Tk) : Dt := if t.tx = bTrue ∨ t.tx = bFalse then litD 5 t.tx false .nil .nil t.ln t.co else if t.tx = bNull then litD 6 em false .nil .nil t.ln t.co else litD 7 t.tx false .nil .nil t.ln t.co
def varS (c : Cu) : Option Dt × Cu := if c.take.isN then (some (litD 1 c.take.tok.tx false .nil .nil c.tok.ln c.tok.co), c.take.name) else (none, c.take.name)
def listS (L : Cu → Option Dt × Cu) (c : Cu) : Option Dt × Cu :=
  match (brk L bLb bRb 0 c).1 with
  | none => (none, (brk L bLb bRb 0 c).2)
  | some l => (some (litD 8 em false (Dt.of l) .nil c.tok.ln c.tok.co), (brk L bLb bRb 0 c).2)
def objS (L : Cu → Option Dt × Cu) (c : Cu) : Option Dt × Cu :=
  match (brk (argS L) bLc bRc 0 c).1 with
  | none => (none, (brk (argS L) bLc bRc 0 c).2)
  | some l => (some (litD 9 em false .nil (Dt.of l) c.tok.ln c.tok.co), (brk (argS L) bLc bRc 0 c).2)
def litS (L : Cu → Option Dt × Cu) (ct : Bool) (c : Cu) : Option Dt × Cu :=
  if c.kd ≠ 0 then (none, c)
  else if c.tok.k = 4 then (some (litD 2 c.tok.tx false .nil .nil c.tok.ln c.tok.co), c.take)
  else if c.tok.k = 5 then (some (litD 3 c.tok.tx false .nil .nil c.tok.ln c.tok.co), c.take)
  else if c.tok.k = 6 ∨ c.tok.k = 7 then (some (litD 4 c.tok.va (decide (c.tok.k = 7)) .nil .nil c.tok.ln c.tok.co), c.take)
  else if c.tok.k = 3 then (some (wordD c.tok), c.take)
  else if c.isP bDol ∧ ct = false then varS c
  else if c.isP bLb then listS L c
  else if c.isP bLc then objS L c
  else (none, c.stop 70)
def litF (ct : Bool) : Nat → Cu → Option Dt × Cu
  | 0, c => (none, c)
  | f + 1, c => litS (litF ct f) ct c
/-- a reading that goes on -/
def Goes {A : Type} (E : Cu → Option A × Cu) : Prop := ∀ c, c.Ok → Stp c (E c).2 ∧ ((E c).1.isSome = true → c.ix < (E c).2.ix)
theorem brkF_stp {E : Cu → Option Dt × Cu} (hE : Goes E) (right : ByteArray) (least : Nat) : ∀ (g : Nat) (l : List Dt) (c : Cu), c.Ok → Stp c (brkF E right least g l c).2
  | 0, l, c, h => Stp.refl h
  | g + 1, l, c, h => by
    simp only [brkF]
    split
    · cases hq : (E c).1 with
      | none => exact (hE c h).1
      | some d => exact (hE c h).1.trans (brkF_stp hE right least g _ _ (hE c h).1.ok)
    · exact cls_stp h _
theorem brk_goes {E : Cu → Option Dt × Cu} (hE : Goes E) (left right : ByteArray) (least : Nat) : Goes (brk E left right least) := by
  intro c h
  unfold brk
  have ho := opn_stp h left
  split
  · rename_i hb
    have h2 := brkF_stp hE right least c.ts.length [] _ ho.ok
    exact ⟨ho.trans h2, fun _ => by have := h2.ix; rw [opn_ix hb] at this; omega⟩
  · exact ⟨ho, fun h => by cases h⟩
theorem argS_goes {L : Cu → Option Dt × Cu} (hL : Goes L) : Goes (argS L) := by
  intro c h
  have h1 := name_stp h
  have h2 := want_stp h1.ok bCol
  have h3 := hL _ h2.ok
  have hs : Stp c (L (c.name.want bCol)).2 := (h1.trans h2).trans h3.1
  unfold argS
  cases hq : (L (c.name.want bCol)).1 with
  | none => exact ⟨hs, fun h => by cases h⟩
  | some d => exact ⟨hs, fun _ => Nat.lt_of_le_of_lt (h1.trans h2).ix (h3.2 (by rw [hq]; rfl))⟩
theorem litS_goes {L : Cu → Option Dt × Cu} (hL : Goes L) (ct : Bool) : Goes (litS L ct) := by
  intro c h
  have htk : ∀ k : Int, c.tok.k = k → k ≠ 0 → k ≠ 1 → Stp c c.take ∧ c.ix < c.take.ix := fun k e h0 h1 => ⟨take_stp h (e ▸ h0) (e ▸ h1), Nat.lt_succ_self _⟩
  unfold litS
  split
  · exact ⟨Stp.refl h, fun h => by cases h⟩
  split
  · have := htk _ ‹_› (by decide) (by decide); exact ⟨this.1, fun _ => this.2⟩
  split
  · have := htk _ ‹_› (by decide) (by decide); exact ⟨this.1, fun _ => this.2⟩
  split
  · rename_i h6
    rcases h6 with h6 | h6
    · have := htk _ h6 (by decide) (by decide); exact ⟨this.1, fun _ => this.2⟩
    · have := htk _ h6 (by decide) (by decide); exact ⟨this.1, fun _ => this.2⟩
  split
  · have := htk _ ‹_› (by decide) (by decide); exact ⟨this.1, fun _ => this.2⟩
  split
  · rename_i hd
    have h1 := takeP h hd.1
    have h2 := name_stp h1.ok
    unfold varS
    split
    · exact ⟨h1.trans h2, fun _ => by have := h2.ix; exact Nat.lt_of_lt_of_le (Nat.lt_succ_self _) this⟩
    · exact ⟨h1.trans h2, fun h => by cases h⟩
  split
  · have hb := brk_goes hL bLb bRb 0 c h
    unfold listS
    cases hq : (brk L bLb bRb 0 c).1 with
    | none => exact ⟨hb.1, fun h => by cases h⟩
    | some l => exact ⟨hb.1, fun _ => hb.2 (by rw [hq]; rfl)⟩
  split
  · have hb := brk_goes (argS_goes hL) bLc bRc 0 c h
    unfold objS
    cases hq : (brk (argS L) bLc bRc 0 c).1 with
    | none => exact ⟨hb.1, fun h => by cases h⟩
    | some l => exact ⟨hb.1, fun _ => hb.2 (by rw [hq]; rfl)⟩
  · exact ⟨stop_stp h _, fun h => by cases h⟩
theorem litF_goes (ct : Bool) : ∀ f, Goes (litF ct f)
  | 0 => fun c h => ⟨Stp.refl h, fun h => by cases h⟩
  | f + 1 => litS_goes (litF_goes ct f) ct
theorem size_app (a b : ByteArray) : (a ++ b).size = a.size + b.size := ByteArray.size_append
/-- a reference's marks are no more than the tokens taken -/
theorem typF_goes : ∀ (f : Nat) (c : Cu), c.Ok → Stp c (typF f c).2 ∧ ∀ r, (typF f c).1 = some r → r.2.size < (typF f c).2.ix - c.ix + 1
  | 0, c, h => ⟨Stp.refl h, fun r hr => by cases hr⟩
  | f + 1, c, h => by
    have hu : Stp c (unm (typF f) c).2 ∧ ∀ r, (unm (typF f) c).1 = some r → r.2.size < (unm (typF f) c).2.ix - c.ix + 1 := by
      unfold unm
      split
      · have ho := opn_stp h bLb
        split
        · rename_i hb
          have hi := opn_ix hb
          have h2 := typF_goes f _ ho.ok
          cases hq : (typF f (c.opn bLb)).1 with
          | none => exact ⟨ho.trans h2.1, fun r hr => by cases hr⟩
          | some it =>
            have h3 := cls_stp h2.1.ok bRb
            have h4 := h2.2 it hq
            have h5 := h2.1.ix
            have h6 := h3.ix
            dsimp only
            split
            · refine ⟨(ho.trans h2.1).trans h3, fun r hr => ?_⟩
              obtain rfl := Option.some.inj hr
              show (it.2 ++ bRb).size < _
              rw [size_app]
              show it.2.size + 1 < ((typF f (c.opn bLb)).2.cls bRb).ix - c.ix + 1
              omega
            · exact ⟨(ho.trans h2.1).trans h3, fun r hr => by cases hr⟩
        · exact ⟨ho, fun r hr => by cases hr⟩
      · have hn := name_stp h
        split
        · exact ⟨hn, fun r hr => by obtain rfl := Option.some.inj hr; show (0 : Nat) < _; omega⟩
        · exact ⟨hn, fun r hr => by cases hr⟩
    show Stp c (typ (unm (typF f)) c).2 ∧ ∀ r, (typ (unm (typF f)) c).1 = some r → r.2.size < (typ (unm (typF f)) c).2.ix - c.ix + 1
    unfold typ
    cases hq : (unm (typF f) c).1 with
    | none => exact ⟨hu.1, fun r hr => by cases hr⟩
    | some it =>
      have hp := punct_stp hu.1.ok bBang
      have h4 := hu.2 it hq
      have h5 := hu.1.ix
      dsimp only
      split
      · rename_i hb
        refine ⟨hu.1.trans hp, fun r hr => ?_⟩
        obtain rfl := Option.some.inj hr
        show (it.2 ++ bBang).size < _
        rw [size_app]
        have : ((unm (typF f) c).2.punct bBang).ix = (unm (typF f) c).2.ix + 1 := by unfold Cu.punct; rw [if_pos hb]; rfl
        rw [this]
        show it.2.size + 1 < _
        omega
      · refine ⟨hu.1.trans hp, fun r hr => ?_⟩
        obtain rfl := Option.some.inj hr
        have := hp.ix
        show it.2.size < ((unm (typF f) c).2.punct bBang).ix - c.ix + 1
        omega
end Go.Proofs.Ytgphiollpbahgaa.cu
namespace Go.Proofs.Ytgphiollpbahgaa.cu
open dt (Dt)
set_option linter.unusedVariables false
set_option linter.unusedSimpArgs false
theorem stop_kd (c : Cu) (k : Int) (hk : k ≠ 0) : (c.stop k).kd ≠ 0 := by
  unfold Cu.stop
  split
  · exact hk
  · assumption
theorem stop_dead (c : Cu) (k : Int) (h : c.kd ≠ 0) : c.stop k = c := if_neg h
/-- nothing read is a fault -/
def Faults {A : Type} (E : Cu → Option A × Cu) (b : Nat) : Prop := ∀ c, c.Ok → c.ts.length ≤ b + c.ix → (E c).1 = none → (E c).2.kd ≠ 0
theorem brkF_faults {E : Cu → Option Dt × Cu} (hG : Goes E) (b : Nat) (hE : Faults E b) (right : ByteArray) (least : Nat) : ∀ (g : Nat) (l : List Dt) (c : Cu), c.Ok → c.ts.length ≤ b + c.ix → c.ts.length ≤ g + c.ix → (brkF E right least g l c).1 = none → (brkF E right least g l c).2.kd ≠ 0
  | 0, l, c, h, hb, hg, hn => by have := h.lt; omega
  | g + 1, l, c, h, hb, hg, hn => by
    simp only [brkF] at hn ⊢
    split
    · rename_i hc
      rw [if_pos hc] at hn
      cases hq : (E c).1 with
      | none => exact hE c h hb hq
      | some d =>
        rw [hq] at hn
        have h1 := hG c h
        have h2 := h1.2 (by rw [hq]; rfl)
        exact brkF_faults hG b hE right least g _ _ h1.1.ok (by rw [h1.1.ts]; omega) (by rw [h1.1.ts]; omega) hn
    · rename_i hc
      rw [if_neg hc] at hn
      cases hn
theorem opn_kd {c : Cu} {p : ByteArray} (h : c.opB p = false) : (c.opn p).kd ≠ 0 := by
  unfold Cu.opB at h
  unfold Cu.opn
  split
  · rename_i hp
    rw [hp] at h
    simp only [Bool.true_and, decide_eq_false_iff_not] at h
    rw [if_neg h]
    exact stop_kd _ _ (by decide)
  · exact stop_kd _ _ (by decide)
theorem brk_faults {E : Cu → Option Dt × Cu} (hG : Goes E) (b : Nat) (hE : Faults E b) (left right : ByteArray) (least : Nat) (c : Cu) (h : c.Ok) (hb : c.ts.length ≤ b + 1 + c.ix) (hn : (brk E left right least c).1 = none) : (brk E left right least c).2.kd ≠ 0 := by
  unfold brk at hn ⊢
  have ho := opn_stp h left
  split
  · rename_i hB
    rw [if_pos hB] at hn
    have hx := opn_ix hB
    exact brkF_faults hG b hE right least c.ts.length [] _ ho.ok (by rw [ho.ts, hx]; omega) (by rw [ho.ts]; omega) hn
  · rename_i hB
    exact opn_kd (by simpa using hB)
theorem argS_faults {L : Cu → Option Dt × Cu} (b : Nat) (hL : Faults L b) : Faults (argS L) b := by
  intro c h hb hn
  have h1 := name_stp h
  have h2 := want_stp h1.ok bCol
  have h3 := h1.trans h2
  unfold argS at hn ⊢
  cases hq : (L (c.name.want bCol)).1 with
  | none => exact hL _ h3.ok (by rw [h3.ts]; have := h3.ix; omega) hq
  | some v => rw [hq] at hn; cases hn
theorem name_kd {c : Cu} (h : c.isN = false) : c.name.kd ≠ 0 := by
  unfold Cu.name
  rw [h]
  exact stop_kd _ _ (by decide)
theorem litF_faults (ct : Bool) : ∀ f, Faults (litF ct f) f
  | 0 => fun c h hb => by have := h.lt; omega
  | f + 1 => by
    intro c h hb hn
    have ih := litF_faults ct f
    change (litS (litF ct f) ct c).1 = none at hn
    show (litS (litF ct f) ct c).2.kd ≠ 0
    unfold litS at hn ⊢
    split
    · assumption
    rename_i h0
    rw [if_neg h0] at hn
    split
    · rename_i h1; rw [if_pos h1] at hn; cases hn
    rename_i h1; rw [if_neg h1] at hn
    split
    · rename_i h2; rw [if_pos h2] at hn; cases hn
    rename_i h2; rw [if_neg h2] at hn
    split
    · rename_i h3; rw [if_pos h3] at hn; cases hn
    rename_i h3; rw [if_neg h3] at hn
    split
    · rename_i h4; rw [if_pos h4] at hn; cases hn
    rename_i h4; rw [if_neg h4] at hn
    split
    · rename_i h5
      rw [if_pos h5] at hn
      unfold varS at hn ⊢
      split
      · rename_i h6; rw [if_pos h6] at hn; cases hn
      · rename_i h6
        exact name_kd (by simpa using h6)
    rename_i h5; rw [if_neg h5] at hn
    split
    · rename_i h6
      rw [if_pos h6] at hn
      unfold listS at hn ⊢
      cases hq : (brk (litF ct f) bLb bRb 0 c).1 with
      | none => exact brk_faults (litF_goes ct f) f ih bLb bRb 0 c h (by omega) hq
      | some l => rw [hq] at hn; cases hn
    rename_i h6; rw [if_neg h6] at hn
    split
    · rename_i h7
      rw [if_pos h7] at hn
      unfold objS at hn ⊢
      cases hq : (brk (argS (litF ct f)) bLc bRc 0 c).1 with
      | none => exact brk_faults (argS_goes (litF_goes ct f)) f (argS_faults f ih) bLc bRc 0 c h (by omega) hq
      | some l => rw [hq] at hn; cases hn
    · exact stop_kd _ _ (by decide)
mutual
def fvD : Dt → Option (Int × Int)
  | .val (.int .i64 k) (.val _ (.val _ (.lst _ its (.lst _ fls (.val (.int .i64 ln) (.val (.int .i64 co) _)))))) => if k = 1 then some (ln, co) else (fvL its).or (fvG fls)
  | _ => none
def fvL : Dt → Option (Int × Int)
  | .row e r => (fvD e).or (fvL r)
  | _ => none
def fvG : Dt → Option (Int × Int)
  | .row (.val _ v) r => (fvD v).or (fvG r)
  | _ => none
end
def fvF : Dt → Option (Int × Int)
  | .val _ v => fvD v
  | _ => none
theorem fvD_lit (k : Int) (tx : ByteArray) (bl : Bool) (its fls : Dt) (ln co : Int) : fvD (litD k tx bl its fls ln co) = if k = 1 then some (ln, co) else (fvL its).or (fvG fls) := by
  unfold litD
  rw [fvD]
theorem fvD_app (k : Int) (tx : ByteArray) (bl : Bool) (its fls : Dt) (ln co : Int) (e : Dt) : fvD (app (litD k tx bl its fls ln co) e) = fvD (litD k tx bl its fls ln co) := by
  unfold litD
  simp only [app]
  rw [fvD, fvD]
theorem fvL_of : ∀ l : List Dt, fvL (Dt.of l) = l.findSome? fvD
  | [] => by unfold Dt.of; rw [fvL]; rfl; intro e r h; cases h
  | d :: l => by
    unfold Dt.of
    rw [fvL, fvL_of l, List.findSome?_cons]
    cases fvD d <;> rfl
theorem fvG_of : ∀ l : List Dt, (∀ d ∈ l, ∃ v r, d = .val v r) → fvG (Dt.of l) = l.findSome? fvF
  | [], _ => by unfold Dt.of; rw [fvG]; rfl; intro e r r2 h; cases h
  | d :: l, h => by
    obtain ⟨v, r, rfl⟩ := h d (by simp)
    unfold Dt.of
    rw [fvG, fvG_of l (fun x hx => h x (by simp [hx])), List.findSome?_cons]
    show (fvD r).or _ = _
    cases e : fvD r with
    | none => simp [fvF, e]
    | some p => simp [fvF, e]
/-- literals -/
def IsLit : Nat → Dt → Prop
  | 0, _ => False
  | f + 1, d => ∃ k tx bl its fls ln co, d = litD k tx bl (Dt.of its) (Dt.of fls) ln co ∧ (∀ x ∈ its, IsLit f x) ∧ (∀ y ∈ fls, ∃ nm v ln co, y = fldD nm v ln co ∧ IsLit f v)
theorem fvF_fld {f : Nat} {nm : ByteArray} {v : Dt} {ln co : Int} (h : IsLit f v) : fvF (fldD nm v ln co) = fvD v := by
  cases f with
  | zero => exact h.elim
  | succ f =>
    obtain ⟨k, tx, bl, its, fls, ln', co', rfl, _⟩ := h
    unfold fldD fvF
    exact fvD_app ..
/-- with variables, and without -/
def Rel {A : Type} (φ : A → Option (Int × Int)) (r0 r1 : Option A × Cu) : Prop :=
  match r0.1 with
  | none => r1.1 = none
  | some v => match φ v with
    | none => r1 = r0
    | some p => r1.1 = none ∧ r1.2.kd = 70 ∧ (r1.2.tok.ln, r1.2.tok.co) = p
theorem brkF_rel {E0 E1 : Cu → Option Dt × Cu} (φ : Dt → Option (Int × Int)) (hR : ∀ c, Rel φ (E0 c) (E1 c)) (right : ByteArray) (least : Nat) : ∀ (g : Nat) (l : List Dt) (c : Cu), l.findSome? φ = none → Rel (fun l => l.findSome? φ) (brkF E0 right least g l c) (brkF E1 right least g l c)
  | 0, l, c, h => by simp only [brkF]; unfold Rel; rfl
  | g + 1, l, c, h => by
    simp only [brkF]
    by_cases hc : l.length < least ∨ c.isP right = false
    · rw [if_pos hc, if_pos hc]
      have hr := hR c
      unfold Rel at hr
      cases hq : (E0 c).1 with
      | none =>
        rw [hq] at hr
        simp only at hr
        rw [hr]
        unfold Rel
        rfl
      | some d =>
        rw [hq] at hr
        simp only at hr
        cases hf : φ d with
        | none =>
          rw [hf] at hr
          simp only at hr
          rw [hr, hq]
          exact brkF_rel φ hR right least g (l ++ [d]) _ (by rw [List.findSome?_append, h]; simp [hf])
        | some p =>
          rw [hf] at hr
          simp only at hr
          rw [hr.1]
          simp only
          unfold Rel
          have key : ∀ (g : Nat) (m : List Dt) (c : Cu) (l' : List Dt), m.findSome? φ = some p → (brkF E0 right least g m c).1 = some l' → l'.findSome? φ = some p := by
            intro g
            induction g with
            | zero => intro m c l' _ h'; simp [brkF] at h'
            | succ g ih =>
              intro m c l' hm h'
              simp only [brkF] at h'
              split at h'
              · cases hq' : (E0 c).1 with
                | none => rw [hq'] at h'; cases h'
                | some d' =>
                  rw [hq'] at h'
                  exact ih (m ++ [d']) _ l' (by rw [List.findSome?_append, hm]; rfl) h'
              · simp at h'; subst h'; exact hm
          cases hb : (brkF E0 right least g (l ++ [d]) (E0 c).2).1 with
          | none => rfl
          | some l' =>
            have := key g (l ++ [d]) _ l' (by rw [List.findSome?_append, h]; simp [hf]) hb
            simp only [this]
            first
              | exact ⟨rfl, hr.2⟩
              | exact ⟨trivial, hr.2⟩
    · rw [if_neg hc, if_neg hc]
      unfold Rel
      simp only [h]
theorem brk_rel {E0 E1 : Cu → Option Dt × Cu} (φ : Dt → Option (Int × Int)) (hR : ∀ c, Rel φ (E0 c) (E1 c)) (left right : ByteArray) (least : Nat) (c : Cu) : Rel (fun l => l.findSome? φ) (brk E0 left right least c) (brk E1 left right least c) := by
  unfold brk
  split
  · exact brkF_rel φ hR right least _ _ _ rfl
  · unfold Rel
    rfl
/-- what is read is a literal -/
theorem brkF_all {E : Cu → Option Dt × Cu} {p : Dt → Prop} (hE : ∀ c d, (E c).1 = some d → p d) (right : ByteArray) (least : Nat) : ∀ (g : Nat) (l : List Dt) (c : Cu) (l' : List Dt), (∀ d ∈ l, p d) → (brkF E right least g l c).1 = some l' → ∀ d ∈ l', p d
  | 0, l, c, l', _, h => by simp [brkF] at h
  | g + 1, l, c, l', hl, h => by
    simp only [brkF] at h
    split at h
    · cases hq : (E c).1 with
      | none => rw [hq] at h; cases h
      | some d =>
        rw [hq] at h
        exact brkF_all hE right least g (l ++ [d]) _ l' (fun x hx => by
          rcases List.mem_append.1 hx with hx | hx
          · exact hl x hx
          · simp at hx; subst hx; exact hE c x hq) h
    · simp at h; subst h; exact hl
theorem brk_all {E : Cu → Option Dt × Cu} {p : Dt → Prop} (hE : ∀ c d, (E c).1 = some d → p d) (left right : ByteArray) (least : Nat) (c : Cu) (l' : List Dt) (h : (brk E left right least c).1 = some l') : ∀ d ∈ l', p d := by
  unfold brk at h
  split at h
  · exact brkF_all hE right least _ _ _ l' (fun d hd => by cases hd) h
  · cases h
theorem leaf_lit (f : Nat) (k : Int) (tx : ByteArray) (bl : Bool) (ln co : Int) : IsLit (f + 1) (litD k tx bl .nil .nil ln co) := ⟨k, tx, bl, [], [], ln, co, rfl, (fun x hx => by cases hx), (fun x hx => by cases hx)⟩
theorem litF_lit (ct : Bool) : ∀ (f : Nat) (c : Cu) (d : Dt), (litF ct f c).1 = some d → IsLit f d
  | 0, c, d, h => by cases h
  | f + 1, c, d, h => by
    change (litS (litF ct f) ct c).1 = some d at h
    unfold litS at h
    split at h
    · cases h
    split at h
    · simp at h; subst h; exact leaf_lit ..
    split at h
    · simp at h; subst h; exact leaf_lit ..
    split at h
    · simp at h; subst h; exact leaf_lit ..
    split at h
    · simp at h; subst h
      unfold wordD
      split
      · exact leaf_lit ..
      · split <;> exact leaf_lit ..
    split at h
    · unfold varS at h
      split at h
      · simp at h; subst h; exact leaf_lit ..
      · cases h
    split at h
    · unfold listS at h
      cases hq : (brk (litF ct f) bLb bRb 0 c).1 with
      | none => rw [hq] at h; cases h
      | some l =>
        rw [hq] at h
        simp at h
        subst h
        exact ⟨_, _, _, l, [], _, _, rfl, brk_all (fun c d hd => litF_lit ct f c d hd) bLb bRb 0 c l hq, (fun x hx => by cases hx)⟩
    split at h
    · unfold objS at h
      cases hq : (brk (argS (litF ct f)) bLc bRc 0 c).1 with
      | none => rw [hq] at h; cases h
      | some l =>
        rw [hq] at h
        simp at h
        subst h
        refine ⟨_, _, _, [], l, _, _, rfl, (fun x hx => by cases hx), brk_all (p := fun y => ∃ nm v ln co, y = fldD nm v ln co ∧ IsLit f v) (fun c d hd => ?_) bLc bRc 0 c l hq⟩
        unfold argS at hd
        cases hq2 : (litF ct f (c.name.want bCol)).1 with
        | none => rw [hq2] at hd; cases hd
        | some v =>
          rw [hq2] at hd
          simp at hd
          subst hd
          exact ⟨_, v, _, _, rfl, litF_lit ct f _ v hq2⟩
    · cases h
theorem rel_leaf {c c' : Cu} {d : Dt} (h : fvD d = none) : Rel fvD (some d, c) (some d, c) := by
  unfold Rel
  simp only [h]
theorem leaf_fv {k : Int} (hk : k ≠ 1) (tx : ByteArray) (bl : Bool) (ln co : Int) : fvD (litD k tx bl .nil .nil ln co) = none := by
  rw [fvD_lit, if_neg hk]
  have h1 : fvL .nil = none := fvL_of []
  have h2 : fvG .nil = none := fvG_of [] (fun d hd => by cases hd)
  rw [h1, h2]
  rfl
theorem litF_rel : ∀ (f : Nat) (c : Cu), Rel fvD (litF false f c) (litF true f c)
  | 0, c => by unfold Rel; rfl
  | f + 1, c => by
    have ih := litF_rel f
    show Rel fvD (litS (litF false f) false c) (litS (litF true f) true c)
    unfold litS
    by_cases h0 : c.kd ≠ 0
    · rw [if_pos h0, if_pos h0]; unfold Rel; rfl
    rw [if_neg h0, if_neg h0]
    by_cases h1 : c.tok.k = 4
    · rw [if_pos h1, if_pos h1]; exact rel_leaf (c' := c) (leaf_fv (by decide) ..)
    rw [if_neg h1, if_neg h1]
    by_cases h2 : c.tok.k = 5
    · rw [if_pos h2, if_pos h2]; exact rel_leaf (c' := c) (leaf_fv (by decide) ..)
    rw [if_neg h2, if_neg h2]
    by_cases h3 : c.tok.k = 6 ∨ c.tok.k = 7
    · rw [if_pos h3, if_pos h3]; exact rel_leaf (c' := c) (leaf_fv (by decide) ..)
    rw [if_neg h3, if_neg h3]
    by_cases h4 : c.tok.k = 3
    · rw [if_pos h4, if_pos h4]
      refine rel_leaf (c' := c) ?_
      unfold wordD
      split
      · exact leaf_fv (by decide) ..
      · split <;> exact leaf_fv (by decide) ..
    rw [if_neg h4, if_neg h4]
    by_cases h5 : c.isP bDol = true
    · rw [if_pos (show c.isP bDol = true ∧ false = false from ⟨h5, rfl⟩), if_neg (show ¬ (c.isP bDol = true ∧ true = false) from fun e => by cases e.2)]
      have hk := isP_k h5
      have n1 : ¬ c.isP bLb = true := fun e => by have := (isP_k e).2.2; rw [hk.2.2] at this; exact absurd this (by decide)
      have n2 : ¬ c.isP bLc = true := fun e => by have := (isP_k e).2.2; rw [hk.2.2] at this; exact absurd this (by decide)
      rw [if_neg n1, if_neg n2]
      unfold varS
      split
      · unfold Rel
        simp only [fvD_lit, if_true]
        refine ⟨trivial, ?_, ?_⟩
        · unfold Cu.stop; rw [if_pos hk.1]
        · unfold Cu.stop; rw [if_pos hk.1]; rfl
      · unfold Rel
        rfl
    rw [if_neg (show ¬ (c.isP bDol = true ∧ false = false) from fun e => h5 e.1), if_neg (show ¬ (c.isP bDol = true ∧ true = false) from fun e => h5 e.1)]
    by_cases h6 : c.isP bLb = true
    · rw [if_pos h6, if_pos h6]
      have hr := brk_rel fvD ih bLb bRb 0 c
      unfold listS
      unfold Rel at hr ⊢
      cases hq : (brk (litF false f) bLb bRb 0 c).1 with
      | none =>
        rw [hq] at hr
        simp only at hr
        rw [hr]
      | some l =>
        rw [hq] at hr
        simp only at hr
        have hv : ∀ a b, fvD (litD 8 em false (Dt.of l) .nil a b) = l.findSome? fvD := fun a b => by
          rw [fvD_lit, if_neg (by decide), fvL_of]
          have h2 : fvG .nil = none := fvG_of [] (fun d hd => by cases hd)
          rw [h2]
          cases l.findSome? fvD <;> rfl
        simp only [hv]
        cases hf : l.findSome? fvD with
        | none =>
          rw [hf] at hr
          simp only at hr ⊢
          rw [hr, hq]
        | some p =>
          rw [hf] at hr
          simp only at hr ⊢
          rw [hr.1]
          first
            | exact ⟨rfl, hr.2⟩
            | exact ⟨trivial, hr.2⟩
    rw [if_neg h6, if_neg h6]
    by_cases h7 : c.isP bLc = true
    · rw [if_pos h7, if_pos h7]
      have ha : ∀ c, Rel fvF (argS (litF false f) c) (argS (litF true f) c) := fun c => by
        have hr := ih (c.name.want bCol)
        unfold argS
        unfold Rel at hr ⊢
        cases hq : (litF false f (c.name.want bCol)).1 with
        | none =>
          rw [hq] at hr
          simp only at hr
          rw [hr]
        | some v =>
          rw [hq] at hr
          simp only at hr
          have hl := litF_lit false f _ v hq
          simp only [fvF_fld hl]
          cases hf : fvD v with
          | none =>
            rw [hf] at hr
            simp only at hr ⊢
            rw [hr, hq]
          | some p =>
            rw [hf] at hr
            simp only at hr ⊢
            rw [hr.1]
            first
              | exact ⟨rfl, hr.2⟩
              | exact ⟨trivial, hr.2⟩
      have hr := brk_rel fvF ha bLc bRc 0 c
      unfold objS
      unfold Rel at hr ⊢
      cases hq : (brk (argS (litF false f)) bLc bRc 0 c).1 with
      | none =>
        rw [hq] at hr
        simp only at hr
        rw [hr]
      | some l =>
        rw [hq] at hr
        simp only at hr
        have hall : ∀ d ∈ l, ∃ v r, d = .val v r := brk_all (p := fun d => ∃ v r, d = .val v r) (fun c d hd => by
          unfold argS at hd
          cases hq2 : (litF false f (c.name.want bCol)).1 with
          | none => rw [hq2] at hd; cases hd
          | some v => rw [hq2] at hd; simp at hd; subst hd; exact ⟨_, _, rfl⟩) bLc bRc 0 c l hq
        have hv : ∀ a b, fvD (litD 9 em false .nil (Dt.of l) a b) = l.findSome? fvF := fun a b => by
          rw [fvD_lit, if_neg (by decide), fvG_of l hall]
          have h2 : fvL .nil = none := fvL_of []
          rw [h2]
          cases l.findSome? fvF <;> rfl
        simp only [hv]
        cases hf : l.findSome? fvF with
        | none =>
          rw [hf] at hr
          simp only at hr ⊢
          rw [hr, hq]
        | some p =>
          rw [hf] at hr
          simp only at hr ⊢
          rw [hr.1]
          first
            | exact ⟨rfl, hr.2⟩
            | exact ⟨trivial, hr.2⟩
    · rw [if_neg h7, if_neg h7]
      unfold Rel
      rfl
end Go.Proofs.Ytgphiollpbahgaa.cu
namespace Go.Proofs.Ytgphiollpbahgaa.cu
open dt (Dt)
set_option linter.unusedVariables false
set_option linter.unusedSimpArgs false
/-- the faults there are -/
def Kd (c : Cu) : Prop := c.kd = 0 ∨ c.kd = 70 ∨ (c.kd = 71 ∧ c.tok.k = 2)
theorem stop_kd70 {c : Cu} (h : Kd c) : Kd (c.stop 70) := by
  unfold Cu.stop
  split
  · exact .inr (.inl rfl)
  · exact h
theorem kd_take {c : Cu} (h : c.kd = 0) : Kd c.take := .inl h
theorem punct_kd {c : Cu} (h : Kd c) (p : ByteArray) : Kd (c.punct p) := by
  unfold Cu.punct
  split
  · exact kd_take (isP_k ‹_›).1
  · exact h
theorem want_kd {c : Cu} (h : Kd c) (p : ByteArray) : Kd (c.want p) := by
  unfold Cu.want
  split
  · exact kd_take (isP_k ‹_›).1
  · exact stop_kd70 h
theorem name_kd' {c : Cu} (h : Kd c) : Kd c.name := by
  unfold Cu.name
  split
  · exact kd_take (isN_k ‹_›).1
  · exact stop_kd70 h
theorem opn_kd' {c : Cu} (h : Kd c) (p : ByteArray) : Kd (c.opn p) := by
  unfold Cu.opn
  split
  · rename_i hp
    split
    · exact .inl (isP_k hp).1
    · unfold Cu.stop
      rw [if_pos (isP_k hp).1]
      exact .inr (.inr ⟨rfl, (isP_k hp).2.1⟩)
  · exact stop_kd70 h
theorem cls_kd {c : Cu} (h : Kd c) (p : ByteArray) : Kd (c.cls p) := by
  unfold Cu.cls
  split
  · rename_i hp
    exact .inl (isP_k hp).1
  · exact stop_kd70 h
theorem fin_kd {c : Cu} (h : Kd c) : Kd c.fin := by
  unfold Cu.fin
  split
  · exact h
  · exact stop_kd70 h
theorem brkF_kd {E : Cu → Option Dt × Cu} (hE : ∀ c, Kd c → Kd (E c).2) (right : ByteArray) (least : Nat) : ∀ (g : Nat) (l : List Dt) (c : Cu), Kd c → Kd (brkF E right least g l c).2
  | 0, l, c, h => h
  | g + 1, l, c, h => by
    simp only [brkF]
    split
    · cases hq : (E c).1 with
      | none => exact hE c h
      | some d => exact brkF_kd hE right least g _ _ (hE c h)
    · exact cls_kd h _
theorem brk_kd {E : Cu → Option Dt × Cu} (hE : ∀ c, Kd c → Kd (E c).2) (left right : ByteArray) (least : Nat) (c : Cu) (h : Kd c) : Kd (brk E left right least c).2 := by
  unfold brk
  split
  · exact brkF_kd hE right least _ _ _ (opn_kd' h left)
  · exact opn_kd' h left
theorem argS_kd {L : Cu → Option Dt × Cu} (hL : ∀ c, Kd c → Kd (L c).2) (c : Cu) (h : Kd c) : Kd (argS L c).2 := by
  have := hL _ (want_kd (name_kd' h) bCol)
  unfold argS
  cases (L (c.name.want bCol)).1 <;> exact this
theorem litF_kd (ct : Bool) : ∀ (f : Nat) (c : Cu), Kd c → Kd (litF ct f c).2
  | 0, c, h => h
  | f + 1, c, h => by
    show Kd (litS (litF ct f) ct c).2
    unfold litS
    split
    · exact h
    rename_i h0
    have hk : c.kd = 0 := Classical.not_not.1 h0
    split
    · exact kd_take hk
    split
    · exact kd_take hk
    split
    · exact kd_take hk
    split
    · exact kd_take hk
    split
    · unfold varS
      split
      · exact name_kd' (kd_take hk)
      · exact name_kd' (kd_take hk)
    split
    · have := brk_kd (fun c h => litF_kd ct f c h) bLb bRb 0 c h
      unfold listS
      cases (brk (litF ct f) bLb bRb 0 c).1 <;> exact this
    split
    · have := brk_kd (fun c h => argS_kd (fun c h => litF_kd ct f c h) c h) bLc bRc 0 c h
      unfold objS
      cases (brk (argS (litF ct f)) bLc bRc 0 c).1 <;> exact this
    · exact stop_kd70 h
/-- two cursors at the same place, over tokens that agree up to number m -/
structure Sim (m : Nat) (c c' : Cu) : Prop where
  ix : c'.ix = c.ix
  op : c'.op = c.op
  mo : c'.mo = c.mo
  kd : c'.kd = c.kd
  ts : ∀ q, q ≤ m → c'.ts[q]? = c.ts[q]?
section
variable {m : Nat}
theorem Sim.tok {c c' : Cu} (h : Sim m c c') (hi : c.ix ≤ m) : c'.tok = c.tok := by
  unfold Cu.tok
  rw [h.ix, List.getD_eq_getElem?_getD, List.getD_eq_getElem?_getD, h.ts _ hi]
theorem Sim.isP {c c' : Cu} (h : Sim m c c') (hi : c.ix ≤ m) (p : ByteArray) : c'.isP p = c.isP p := by unfold Cu.isP; rw [h.kd, h.tok hi]
theorem Sim.isN {c c' : Cu} (h : Sim m c c') (hi : c.ix ≤ m) : c'.isN = c.isN := by unfold Cu.isN; rw [h.kd, h.tok hi]
theorem Sim.take {c c' : Cu} (h : Sim m c c') : Sim m c.take c'.take := ⟨by unfold Cu.take; simp only; rw [h.ix], h.op, h.mo, h.kd, h.ts⟩
theorem Sim.stop {c c' : Cu} (h : Sim m c c') (k : Int) : Sim m (c.stop k) (c'.stop k) := by
  unfold Cu.stop
  rw [h.kd]
  split
  · exact ⟨h.ix, h.op, h.mo, rfl, h.ts⟩
  · exact h
theorem Sim.want {c c' : Cu} (h : Sim m c c') (hi : c.ix ≤ m) (p : ByteArray) : Sim m (c.want p) (c'.want p) := by
  unfold Cu.want
  rw [h.isP hi]
  split
  · exact h.take
  · exact h.stop 70
theorem Sim.name {c c' : Cu} (h : Sim m c c') (hi : c.ix ≤ m) : Sim m c.name c'.name := by
  unfold Cu.name
  rw [h.isN hi]
  split
  · exact h.take
  · exact h.stop 70
theorem Sim.opB {c c' : Cu} (h : Sim m c c') (hi : c.ix ≤ m) (p : ByteArray) : c'.opB p = c.opB p := by unfold Cu.opB; rw [h.isP hi, h.op, h.mo]
theorem Sim.opn {c c' : Cu} (h : Sim m c c') (hi : c.ix ≤ m) (p : ByteArray) : Sim m (c.opn p) (c'.opn p) := by
  unfold Cu.opn
  rw [h.isP hi, h.op, h.mo]
  split
  · split
    · exact ⟨by simp only; rw [h.ix], by simp only, by simp only, h.kd, h.ts⟩
    · exact h.stop 71
  · exact h.stop 70
theorem Sim.cls {c c' : Cu} (h : Sim m c c') (hi : c.ix ≤ m) (p : ByteArray) : Sim m (c.cls p) (c'.cls p) := by
  unfold Cu.cls
  rw [h.isP hi]
  split
  · exact ⟨by simp only; rw [h.ix], by simp only; rw [h.op], h.mo, h.kd, h.ts⟩
  · exact h.stop 70
theorem Sim.finB {c c' : Cu} (h : Sim m c c') (hi : c.ix ≤ m) : c'.finB = c.finB := by unfold Cu.finB; rw [h.kd, h.tok hi]
theorem Sim.fin {c c' : Cu} (h : Sim m c c') (hi : c.ix ≤ m) : Sim m c.fin c'.fin := by
  unfold Cu.fin
  rw [h.finB hi]
  split
  · exact h
  · exact h.stop 70
/-- a reading that looks no further than it goes -/
def Near {A : Type} (m : Nat) (E E' : Cu → Option A × Cu) (b b' : Nat) : Prop := ∀ c c', c.Ok → c'.Ok → Sim m c c' → c.ts.length ≤ b + c.ix → c'.ts.length ≤ b' + c'.ix → (E c).2.ix ≤ m → (E' c').1 = (E c).1 ∧ Sim m (E c).2 (E' c').2
theorem brkF_near {E E' : Cu → Option Dt × Cu} {b b' : Nat} (hG : Goes E) (hG' : Goes E') (hE : Near m E E' b b') (right : ByteArray) (least : Nat) : ∀ (g g' : Nat) (l : List Dt) (c c' : Cu), c.Ok → c'.Ok → Sim m c c' → c.ts.length ≤ b + c.ix → c'.ts.length ≤ b' + c'.ix → c.ts.length ≤ g + c.ix → c'.ts.length ≤ g' + c'.ix → (brkF E right least g l c).2.ix ≤ m → (brkF E' right least g' l c').1 = (brkF E right least g l c).1 ∧ Sim m (brkF E right least g l c).2 (brkF E' right least g' l c').2
  | 0, g', l, c, c', h, h', hs, hb, hb', hg, hg', hm => by have := h.lt; omega
  | g + 1, 0, l, c, c', h, h', hs, hb, hb', hg, hg', hm => by have := h'.lt; omega
  | g + 1, g' + 1, l, c, c', h, h', hs, hb, hb', hg, hg', hm => by
    have hst := brkF_stp hG right least (g + 1) l c h
    have hix : c.ix ≤ m := Nat.le_trans hst.ix hm
    simp only [brkF] at hm ⊢
    rw [hs.isP hix]
    by_cases hc : l.length < least ∨ c.isP right = false
    · rw [if_pos hc] at hm
      rw [if_pos hc, if_pos hc]
      have hgo := hG c h
      have hEm : (E c).2.ix ≤ m := by
        cases hq : (E c).1 with
        | none => rw [hq] at hm; exact hm
        | some d =>
          rw [hq] at hm
          exact Nat.le_trans (brkF_stp hG right least g _ _ hgo.1.ok).ix hm
      obtain ⟨e1, e2⟩ := hE c c' h h' hs hb hb' hEm
      cases hq : (E c).1 with
      | none =>
        rw [hq] at e1
        rw [e1]
        exact ⟨rfl, e2⟩
      | some d =>
        rw [hq] at e1 hm
        rw [e1]
        have hgo' := hG' c' h'
        have i1 := hgo.2 (by rw [hq]; rfl)
        have i2 := hgo'.2 (by rw [e1]; rfl)
        exact brkF_near hG hG' hE right least g g' (l ++ [d]) _ _ hgo.1.ok hgo'.1.ok e2 (by rw [hgo.1.ts]; omega) (by rw [hgo'.1.ts]; omega) (by rw [hgo.1.ts]; omega) (by rw [hgo'.1.ts]; omega) hm
    · rw [if_neg hc, if_neg hc]
      exact ⟨rfl, hs.cls hix right⟩
theorem brk_near {E E' : Cu → Option Dt × Cu} {b b' : Nat} (hG : Goes E) (hG' : Goes E') (hE : Near m E E' b b') (left right : ByteArray) (least : Nat) : Near m (brk E left right least) (brk E' left right least) (b + 1) (b' + 1) := by
  intro c c' h h' hs hb hb' hm
  have hst := (brk_goes hG left right least c h).1
  have hix : c.ix ≤ m := Nat.le_trans hst.ix hm
  unfold brk at hm ⊢
  rw [hs.opB hix]
  have ho := opn_stp h left
  have ho' := opn_stp h' left
  by_cases hB : c.opB left = true
  · rw [if_pos hB] at hm
    rw [if_pos hB, if_pos hB]
    have x1 := opn_ix hB
    have x2 := opn_ix (show c'.opB left = true by rw [hs.opB hix]; exact hB)
    exact brkF_near hG hG' hE right least _ _ [] _ _ ho.ok ho'.ok (hs.opn hix left) (by rw [ho.ts, x1]; omega) (by rw [ho'.ts, x2]; omega) (by rw [ho.ts]; omega) (by rw [ho'.ts]; omega) hm
  · rw [if_neg hB, if_neg hB]
    exact ⟨rfl, hs.opn hix left⟩
theorem argS_near {L L' : Cu → Option Dt × Cu} {b b' : Nat} (hG : Goes L) (hL : Near m L L' b b') : Near m (argS L) (argS L') b b' := by
  intro c c' h h' hs hb hb' hm
  have hst := (argS_goes hG c h).1
  have hix : c.ix ≤ m := Nat.le_trans hst.ix hm
  have s1 := name_stp h
  have s2 := want_stp s1.ok bCol
  have s1' := name_stp h'
  have s2' := want_stp s1'.ok bCol
  have s3 := (hG _ s2.ok).1
  have hLm : (L (c.name.want bCol)).2.ix ≤ m := by
    unfold argS at hm
    cases hq : (L (c.name.want bCol)).1 with
    | none => rw [hq] at hm; exact hm
    | some v => rw [hq] at hm; exact hm
  have i1 : c.name.ix ≤ m := Nat.le_trans (Nat.le_trans s2.ix s3.ix) hLm
  have t := s1.trans s2
  have t' := s1'.trans s2'
  obtain ⟨e1, e2⟩ := hL (c.name.want bCol) (c'.name.want bCol) s2.ok s2'.ok ((hs.name hix).want i1 bCol) (by rw [t.ts]; have := t.ix; omega) (by rw [t'.ts]; have := t'.ix; omega) hLm
  unfold argS
  rw [e1]
  cases hq : (L (c.name.want bCol)).1 with
  | none => exact ⟨rfl, e2⟩
  | some v =>
    rw [hs.tok hix]
    exact ⟨rfl, e2⟩
theorem litF_near (ct : Bool) : ∀ (f f' : Nat), Near m (litF ct f) (litF ct f') f f'
  | 0, f' => fun c c' h h' hs hb hb' hm => by have := h.lt; omega
  | f + 1, 0 => fun c c' h h' hs hb hb' hm => by have := h'.lt; omega
  | f + 1, f' + 1 => by
    intro c c' h h' hs hb hb' hm
    have ih := litF_near ct f f'
    have hst := (litF_goes ct (f + 1) c h).1
    have hix : c.ix ≤ m := Nat.le_trans hst.ix hm
    have ht := hs.tok hix
    change (litS (litF ct f) ct c).2.ix ≤ m at hm
    show (litS (litF ct f') ct c').1 = (litS (litF ct f) ct c).1 ∧ Sim m (litS (litF ct f) ct c).2 (litS (litF ct f') ct c').2
    unfold litS at hm ⊢
    rw [hs.kd, ht, hs.isP hix, hs.isP hix, hs.isP hix]
    by_cases h0 : c.kd ≠ 0
    · rw [if_pos h0, if_pos h0]; exact ⟨rfl, hs⟩
    rw [if_neg h0] at hm
    rw [if_neg h0, if_neg h0]
    by_cases h1 : c.tok.k = 4
    · rw [if_pos h1, if_pos h1]; exact ⟨rfl, hs.take⟩
    rw [if_neg h1] at hm
    rw [if_neg h1, if_neg h1]
    by_cases h2 : c.tok.k = 5
    · rw [if_pos h2, if_pos h2]; exact ⟨rfl, hs.take⟩
    rw [if_neg h2] at hm
    rw [if_neg h2, if_neg h2]
    by_cases h3 : c.tok.k = 6 ∨ c.tok.k = 7
    · rw [if_pos h3, if_pos h3]; exact ⟨rfl, hs.take⟩
    rw [if_neg h3] at hm
    rw [if_neg h3, if_neg h3]
    by_cases h4 : c.tok.k = 3
    · rw [if_pos h4, if_pos h4]; exact ⟨rfl, hs.take⟩
    rw [if_neg h4] at hm
    rw [if_neg h4, if_neg h4]
    by_cases h5 : c.isP bDol = true ∧ ct = false
    · rw [if_pos h5] at hm
      rw [if_pos h5, if_pos h5]
      have hn := name_stp (takeP h h5.1).ok
      have hi1 : c.take.ix ≤ m := by
        unfold varS at hm
        split at hm
        · exact Nat.le_trans hn.ix hm
        · exact Nat.le_trans hn.ix hm
      unfold varS
      rw [hs.take.isN hi1, hs.take.tok hi1, ht]
      split
      · exact ⟨rfl, hs.take.name hi1⟩
      · exact ⟨rfl, hs.take.name hi1⟩
    rw [if_neg h5] at hm
    rw [if_neg h5, if_neg h5]
    by_cases h6 : c.isP bLb = true
    · rw [if_pos h6] at hm
      rw [if_pos h6, if_pos h6]
      have hbm : (brk (litF ct f) bLb bRb 0 c).2.ix ≤ m := by
        unfold listS at hm
        cases hq : (brk (litF ct f) bLb bRb 0 c).1 with
        | none => rw [hq] at hm; exact hm
        | some l => rw [hq] at hm; exact hm
      obtain ⟨e1, e2⟩ := brk_near (litF_goes ct f) (litF_goes ct f') ih bLb bRb 0 c c' h h' hs (by omega) (by omega) hbm
      unfold listS
      rw [e1]
      cases hq : (brk (litF ct f) bLb bRb 0 c).1 with
      | none => exact ⟨rfl, e2⟩
      | some l => rw [ht]; exact ⟨rfl, e2⟩
    rw [if_neg h6] at hm
    rw [if_neg h6, if_neg h6]
    by_cases h7 : c.isP bLc = true
    · rw [if_pos h7] at hm
      rw [if_pos h7, if_pos h7]
      have hbm : (brk (argS (litF ct f)) bLc bRc 0 c).2.ix ≤ m := by
        unfold objS at hm
        cases hq : (brk (argS (litF ct f)) bLc bRc 0 c).1 with
        | none => rw [hq] at hm; exact hm
        | some l => rw [hq] at hm; exact hm
      obtain ⟨e1, e2⟩ := brk_near (argS_goes (litF_goes ct f)) (argS_goes (litF_goes ct f')) (argS_near (litF_goes ct f) ih) bLc bRc 0 c c' h h' hs (by omega) (by omega) hbm
      unfold objS
      rw [e1]
      cases hq : (brk (argS (litF ct f)) bLc bRc 0 c).1 with
      | none => exact ⟨rfl, e2⟩
      | some l => rw [ht]; exact ⟨rfl, e2⟩
    · rw [if_neg h7, if_neg h7]
      exact ⟨rfl, hs.stop 70⟩
end
end Go.Proofs.Ytgphiollpbahgaa.cu
namespace Go.Proofs.Ytgphiollpbahgaa.mem
set_option linter.unusedVariables false

/-- A sign stands at a place. -/
def isAt (l : List Int) (p : Nat) (c : Int) : Bool := decide (p < l.length) && (l.getD p 0 == c)
def digB (c : Int) : Bool := decide (48 ≤ c) && decide (c ≤ 57)
def digAt (l : List Int) (p : Nat) : Bool := decide (p < l.length) && digB (l.getD p 0)
def digsF (l : List Int) : Nat → Nat → Nat
  | 0, p => p
  | f + 1, p => if digAt l p then digsF l f (p + 1) else p
/-- The place behind the digits from p on. -/
def digs (l : List Int) (p : Nat) : Nat := digsF l (l.length - p) p
theorem digAt_lt {l : List Int} {p : Nat} (h : digAt l p = true) : p < l.length := by
  unfold digAt at h
  simp only [Bool.and_eq_true, decide_eq_true_eq] at h
  exact h.1
theorem isAt_lt {l : List Int} {p : Nat} {c : Int} (h : isAt l p c = true) : p < l.length := by
  unfold isAt at h
  simp only [Bool.and_eq_true, decide_eq_true_eq] at h
  exact h.1
theorem digs_yes {l : List Int} {p : Nat} (h : digAt l p = true) : digs l p = digs l (p + 1) := by
  have hl := digAt_lt h
  unfold digs
  rw [show l.length - p = (l.length - (p + 1)) + 1 by omega]
  simp only [digsF, h, if_true]
theorem digs_no {l : List Int} {p : Nat} (h : digAt l p = false) : digs l p = p := by
  unfold digs
  cases l.length - p with
  | zero => rfl
  | succ f => simp only [digsF, h]; rfl
theorem digsF_le (l : List Int) (f p : Nat) : p ≤ digsF l f p ∧ digsF l f p ≤ p + f := by
  induction f generalizing p with
  | zero => simp [digsF]
  | succ f ih =>
    simp only [digsF]
    split
    · have := ih (p + 1); omega
    · omega
theorem digs_le (l : List Int) (p : Nat) : p ≤ digs l p ∧ (p ≤ l.length → digs l p ≤ l.length) := by
  have := digsF_le l (l.length - p) p
  unfold digs
  omega
theorem digs_pos {l : List Int} {p : Nat} (h : digAt l p = true) : p + 1 ≤ digs l p := by
  rw [digs_yes h]; exact (digs_le l (p + 1)).1
theorem digs_end {l : List Int} {p : Nat} : digAt l (digs l p) = false := by
  unfold digs
  generalize hf : l.length - p = f
  induction f generalizing p with
  | zero =>
    unfold digsF digAt
    have : ¬ p < l.length := by omega
    simp [this]
  | succ f ih =>
    simp only [digsF]
    cases h : digAt l p
    · simpa using h
    · simpa using ih (p := p + 1) (by omega)

/-- The program. -/
def bWhole (l : List Int) (p : Nat) : Nat := if isAt l p 48 then p + 1 else digs l p
def bPart (l : List Int) (p first : Nat) : Nat × Nat := if first = p then (p, p) else if digs l first = first then (p, digs l first) else (digs l first, digs l first)
def bPoint (l : List Int) (p : Nat) : Nat := if isAt l p 46 then p + 1 else p
def bMark (l : List Int) (p : Nat) : Nat := if isAt l p 101 = false ∧ isAt l p 69 = false then p else if isAt l (p + 1) 43 = true ∨ isAt l (p + 1) 45 = true then p + 2 else p + 1
def pfxFirst (l : List Int) (p : Nat) : Nat := if isAt l p 45 then p + 1 else p
def pfxR (l : List Int) (e : Nat) : Nat × Nat :=
  if (bPart l e (bPoint l e)).1 = (bPart l e (bPoint l e)).2 then bPart l (bPart l e (bPoint l e)).1 (bMark l (bPart l e (bPoint l e)).1) else bPart l e (bPoint l e)
def pfx (l : List Int) (p : Nat) : Nat × Nat × Int :=
  if bWhole l (pfxFirst l p) = pfxFirst l p then (p, pfxFirst l p, 0)
  else ((pfxR l (bWhole l (pfxFirst l p))).1, (pfxR l (bWhole l (pfxFirst l p))).2, if (pfxR l (bWhole l (pfxFirst l p))).1 > bWhole l (pfxFirst l p) then 2 else 1)

/-- The reference. -/
def stepZ (st c : Int) : Int :=
  if st = 0 ∨ st = 1 then (if c = 45 ∧ st = 0 then 1 else if c = 48 then 2 else if digB c then 3 else -1)
  else if st = 2 ∨ st = 3 then (if digB c ∧ st = 3 then 3 else if c = 46 then 4 else if c = 101 ∨ c = 69 then 6 else -1)
  else if st = 4 then (if digB c then 5 else -1)
  else if st = 5 then (if digB c then 5 else if c = 101 ∨ c = 69 then 6 else -1)
  else if st = 6 then (if digB c then 8 else if c = 43 ∨ c = 45 then 7 else -1)
  else if st = 7 ∨ st = 8 then (if digB c then 8 else -1)
  else -1
def formZ (st : Int) : Int := if st = 2 ∨ st = 3 then 1 else if st = 5 ∨ st = 8 then 2 else 0
def runF (l : List Int) : Nat → Int → Nat → Int → Nat → Nat × Nat × Int
  | 0, _, e, f, _ => (e, l.length, f)
  | m + 1, st, e, f, k =>
    if stepZ st (l.getD k 0) < 0 then (e, k, f)
    else if formZ (stepZ st (l.getD k 0)) ≠ 0 then runF l m (stepZ st (l.getD k 0)) (k + 1) (formZ (stepZ st (l.getD k 0))) (k + 1)
    else runF l m (stepZ st (l.getD k 0)) e f (k + 1)
def run (l : List Int) (st : Int) (e : Nat) (f : Int) (k : Nat) : Nat × Nat × Int := runF l (l.length - k) st e f k
theorem run_end {l : List Int} {k : Nat} (h : ¬ k < l.length) (st : Int) (e : Nat) (f : Int) : run l st e f k = (e, l.length, f) := by
  unfold run
  rw [show l.length - k = 0 by omega]
  rfl
theorem run_bad {l : List Int} {k : Nat} (h : k < l.length) {st : Int} (hs : stepZ st (l.getD k 0) < 0) (e : Nat) (f : Int) : run l st e f k = (e, k, f) := by
  unfold run
  rw [show l.length - k = (l.length - (k + 1)) + 1 by omega]
  simp only [runF, hs, if_true]
theorem run_go {l : List Int} {k : Nat} (h : k < l.length) {st s' : Int} (hs : stepZ st (l.getD k 0) = s') (h0 : 0 ≤ s') (hf : formZ s' = 0) (e : Nat) (f : Int) : run l st e f k = run l s' e f (k + 1) := by
  unfold run
  rw [show l.length - k = (l.length - (k + 1)) + 1 by omega]
  simp only [runF, hs, hf, ne_eq, not_true, if_false, show ¬ s' < 0 by omega]
theorem run_take {l : List Int} {k : Nat} (h : k < l.length) {st s' : Int} (hs : stepZ st (l.getD k 0) = s') (h0 : 0 ≤ s') (hf : formZ s' ≠ 0) (e : Nat) (f : Int) : run l st e f k = run l s' (k + 1) (formZ s') (k + 1) := by
  unfold run
  rw [show l.length - k = (l.length - (k + 1)) + 1 by omega]
  simp only [runF, hs, ne_eq, hf, not_false_eq_true, if_true, show ¬ s' < 0 by omega, if_false]

theorem isAt_of {l : List Int} {k : Nat} (h : k < l.length) (c : Int) : isAt l k c = (l.getD k 0 == c) := by simp [-List.getD_eq_getElem?_getD, isAt, h]
theorem digAt_of {l : List Int} {k : Nat} (h : k < l.length) : digAt l k = digB (l.getD k 0) := by simp [-List.getD_eq_getElem?_getD, digAt, h]
theorem isAt_not {l : List Int} {k : Nat} (h : ¬ k < l.length) (c : Int) : isAt l k c = false := by simp [-List.getD_eq_getElem?_getD, isAt, h]
theorem digAt_not {l : List Int} {k : Nat} (h : ¬ k < l.length) : digAt l k = false := by simp [-List.getD_eq_getElem?_getD, digAt, h]
theorem digB_not {c : Int} (h : digB c = true) : c ≠ 45 ∧ c ≠ 43 ∧ c ≠ 46 ∧ c ≠ 101 ∧ c ≠ 69 := by
  unfold digB at h
  simp only [Bool.and_eq_true, decide_eq_true_eq] at h
  omega

theorem run8 (l : List Int) (k : Nat) (hk : k ≤ l.length) : run l 8 k 2 k = (digs l k, digs l k, 2) := by
  generalize hm : l.length - k = m
  induction m generalizing k with
  | zero =>
    rw [run_end (by omega), digs_no (digAt_not (by omega)), show k = l.length by omega]
  | succ m ih =>
    have hl : k < l.length := by omega
    cases h : digAt l k
    · rw [digs_no h, run_bad hl]
      rw [digAt_of hl] at h
      simp [-List.getD_eq_getElem?_getD, stepZ, h]
    · rw [digs_yes h, ← ih (k + 1) (by omega) (by omega)]
      rw [digAt_of hl] at h
      exact run_take (s' := 8) hl (by simp [-List.getD_eq_getElem?_getD, stepZ, h]) (by omega) (by decide) _ _
theorem run7 (l : List Int) (k : Nat) (hk : k ≤ l.length) (e : Nat) (f : Int) : run l 7 e f k = if digAt l k then (digs l k, digs l k, 2) else (e, k, f) := by
  by_cases hl : k < l.length
  · cases h : digAt l k
    · rw [run_bad hl]
      · rfl
      · rw [digAt_of hl] at h; simp [-List.getD_eq_getElem?_getD, stepZ, h]
    · rw [digs_yes h, ← run8 l (k + 1) (by omega)]
      rw [digAt_of hl] at h
      exact run_take (s' := 8) hl (by simp [-List.getD_eq_getElem?_getD, stepZ, h]) (by omega) (by decide) _ _
  · rw [run_end hl, digAt_not hl, show k = l.length by omega]; rfl
def after6 (l : List Int) (k e : Nat) (f : Int) : Nat × Nat × Int :=
  if digAt l k then (digs l k, digs l k, 2) else if isAt l k 43 = true ∨ isAt l k 45 = true then (if digAt l (k + 1) then (digs l (k + 1), digs l (k + 1), 2) else (e, k + 1, f)) else (e, k, f)
theorem run6 (l : List Int) (k : Nat) (hk : k ≤ l.length) (e : Nat) (f : Int) : run l 6 e f k = after6 l k e f := by
  unfold after6
  by_cases hl : k < l.length
  · cases h : digAt l k
    · by_cases hs : isAt l k 43 = true ∨ isAt l k 45 = true
      · rw [if_neg (by simp), if_pos hs, ← run7 l (k + 1) (by omega) e f]
        rw [isAt_of hl, isAt_of hl] at hs
        rw [digAt_of hl] at h
        refine run_go (s' := 7) hl ?_ (by omega) (by decide) _ _
        simp only [beq_iff_eq] at hs
        simp [-List.getD_eq_getElem?_getD, stepZ, h, hs]
      · rw [if_neg (by simp), if_neg hs, run_bad hl]
        rw [isAt_of hl, isAt_of hl] at hs
        rw [digAt_of hl] at h
        simp only [beq_iff_eq] at hs
        simp [-List.getD_eq_getElem?_getD, stepZ, h, hs]
    · rw [if_pos rfl, digs_yes h, ← run8 l (k + 1) (by omega)]
      rw [digAt_of hl] at h
      exact run_take (s' := 8) hl (by simp [-List.getD_eq_getElem?_getD, stepZ, h]) (by omega) (by decide) _ _
  · rw [run_end hl, digAt_not hl, isAt_not hl, isAt_not hl, show k = l.length by omega]; simp
def isE (l : List Int) (k : Nat) : Bool := isAt l k 101 || isAt l k 69
theorem isE_of {l : List Int} {k : Nat} (h : k < l.length) : isE l k = true ↔ (l.getD k 0 = 101 ∨ l.getD k 0 = 69) := by
  unfold isE
  rw [isAt_of h, isAt_of h]
  simp only [Bool.or_eq_true, beq_iff_eq]
theorem isE_not {l : List Int} {k : Nat} (h : ¬ k < l.length) : isE l k = false := by simp [isE, isAt_not h]
def afterE (l : List Int) (d : Nat) (f : Int) : Nat × Nat × Int := if isE l d then after6 l (d + 1) d f else (d, d, f)
theorem run5 (l : List Int) (k : Nat) (hk : k ≤ l.length) : run l 5 k 2 k = afterE l (digs l k) 2 := by
  generalize hm : l.length - k = m
  induction m generalizing k with
  | zero =>
    rw [run_end (by omega), digs_no (digAt_not (by omega))]
    unfold afterE
    rw [isE_not (by omega), show k = l.length by omega]; rfl
  | succ m ih =>
    have hl : k < l.length := by omega
    cases h : digAt l k
    · rw [digs_no h]
      unfold afterE
      rw [digAt_of hl] at h
      cases he : isE l k
      · rw [run_bad hl]
        · rfl
        · have : ¬ (l.getD k 0 = 101 ∨ l.getD k 0 = 69) := fun h => (by simp [he] : ¬ isE l k = true) ((isE_of hl).2 h)
          simp [-List.getD_eq_getElem?_getD, stepZ, h, this]
      · rw [if_pos rfl, ← run6 l (k + 1) (by omega)]
        refine run_go (s' := 6) hl ?_ (by omega) (by decide) _ _
        have := (isE_of hl).1 he
        simp [-List.getD_eq_getElem?_getD, stepZ, h, this]
    · rw [digs_yes h, ← ih (k + 1) (by omega) (by omega)]
      rw [digAt_of hl] at h
      exact run_take (s' := 5) hl (by simp [-List.getD_eq_getElem?_getD, stepZ, h]) (by omega) (by decide) _ _
theorem run4 (l : List Int) (k : Nat) (hk : k ≤ l.length) (e : Nat) (f : Int) : run l 4 e f k = if digAt l k then afterE l (digs l k) 2 else (e, k, f) := by
  by_cases hl : k < l.length
  · cases h : digAt l k
    · rw [run_bad hl]
      · rfl
      · rw [digAt_of hl] at h; simp [-List.getD_eq_getElem?_getD, stepZ, h]
    · rw [if_pos rfl, digs_yes h, ← run5 l (k + 1) (by omega)]
      rw [digAt_of hl] at h
      exact run_take (s' := 5) hl (by simp [-List.getD_eq_getElem?_getD, stepZ, h]) (by omega) (by decide) _ _
  · rw [run_end hl, digAt_not hl, show k = l.length by omega]; rfl
def tailZ (l : List Int) (d : Nat) : Nat × Nat × Int := if isAt l d 46 then (if digAt l (d + 1) then afterE l (digs l (d + 1)) 2 else (d, d + 1, 1)) else afterE l d 1
theorem run_tail (l : List Int) (k : Nat) (hk : k ≤ l.length) (st : Int) (hst : st = 2 ∨ (st = 3 ∧ digAt l k = false)) : run l st k 1 k = tailZ l k := by
  unfold tailZ
  by_cases hl : k < l.length
  · have hnd : ¬ (digB (l.getD k 0) = true ∧ st = 3) := by
      rcases hst with rfl | ⟨rfl, h⟩
      · omega
      · rw [digAt_of hl] at h; simp only [h]; simp
    have hstep : stepZ st (l.getD k 0) = if l.getD k 0 = 46 then 4 else if l.getD k 0 = 101 ∨ l.getD k 0 = 69 then 6 else -1 := by
      unfold stepZ
      rw [if_neg (by omega), if_pos (by omega), if_neg hnd]
    cases h : isAt l k 46
    · rw [isAt_of hl] at h
      have h46 : ¬ l.getD k 0 = 46 := by simpa [-List.getD_eq_getElem?_getD] using h
      rw [if_neg h46] at hstep
      unfold afterE
      cases he : isE l k
      · have h2 := fun h => (by simp [he] : ¬ isE l k = true) ((isE_of hl).2 h)
        rw [if_neg h2] at hstep
        rw [run_bad hl (by omega)]
        rfl
      · have h2 := (isE_of hl).1 he
        rw [if_pos h2] at hstep
        rw [if_neg (by simp), if_pos rfl, ← run6 l (k + 1) (by omega)]
        exact run_go (s' := 6) hl hstep (by omega) (by decide) _ _
    · rw [isAt_of hl] at h
      have h46 : l.getD k 0 = 46 := by simpa [-List.getD_eq_getElem?_getD] using h
      rw [if_pos h46] at hstep
      rw [if_pos rfl, ← run4 l (k + 1) (by omega)]
      exact run_go (s' := 4) hl hstep (by omega) (by decide) _ _
  · rw [run_end hl, isAt_not hl]
    have e : afterE l k 1 = (k, k, 1) := by unfold afterE; rw [isE_not hl]; rfl
    rw [e, show k = l.length by omega]; rfl
theorem run3 (l : List Int) (k : Nat) (hk : k ≤ l.length) : run l 3 k 1 k = tailZ l (digs l k) := by
  generalize hm : l.length - k = m
  induction m generalizing k with
  | zero =>
    have hd : digAt l k = false := digAt_not (by omega)
    rw [digs_no hd]
    exact run_tail l k hk 3 (.inr ⟨rfl, hd⟩)
  | succ m ih =>
    have hl : k < l.length := by omega
    cases h : digAt l k
    · rw [digs_no h]
      exact run_tail l k hk 3 (.inr ⟨rfl, h⟩)
    · rw [digs_yes h, ← ih (k + 1) (by omega) (by omega)]
      rw [digAt_of hl] at h
      exact run_take (s' := 3) hl (by simp [-List.getD_eq_getElem?_getD, stepZ, h]) (by omega) (by decide) _ _
def wholeZ (l : List Int) (p k : Nat) : Nat × Nat × Int := if isAt l k 48 then tailZ l (k + 1) else if digAt l k then tailZ l (digs l k) else (p, k, 0)
theorem run_whole (l : List Int) (k : Nat) (hk : k ≤ l.length) (st : Int) (hst : st = 1 ∨ (st = 0 ∧ isAt l k 45 = false)) (p : Nat) : run l st p 0 k = wholeZ l p k := by
  unfold wholeZ
  by_cases hl : k < l.length
  · have hstep : stepZ st (l.getD k 0) = if l.getD k 0 = 48 then 2 else if digB (l.getD k 0) then 3 else -1 := by
      unfold stepZ
      rw [if_pos (by omega), if_neg]
      rintro ⟨h1, h2⟩
      rcases hst with rfl | ⟨rfl, h⟩
      · omega
      · rw [isAt_of hl] at h; simp [-List.getD_eq_getElem?_getD] at h; exact h h1
    cases h : isAt l k 48
    · rw [isAt_of hl] at h
      rw [if_neg (by simpa [-List.getD_eq_getElem?_getD] using h)] at hstep
      cases hd : digAt l k
      · rw [digAt_of hl] at hd
        rw [hd, if_neg (by simp)] at hstep
        rw [run_bad hl (by omega)]; rfl
      · rw [if_neg (by simp), if_pos rfl, digs_yes hd, ← run3 l (k + 1) (by omega)]
        rw [digAt_of hl] at hd
        rw [hd, if_pos rfl] at hstep
        exact run_take (s' := 3) hl hstep (by omega) (by decide) _ _
    · rw [isAt_of hl] at h
      rw [if_pos (by simpa [-List.getD_eq_getElem?_getD] using h)] at hstep
      rw [if_pos rfl, ← run_tail l (k + 1) (by omega) 2 (.inl rfl)]
      exact run_take (s' := 2) hl hstep (by omega) (by decide) _ _
  · rw [run_end hl, isAt_not hl, digAt_not hl, show k = l.length by omega]; rfl
theorem run0 (l : List Int) (p : Nat) (hp : p ≤ l.length) : run l 0 p 0 p = wholeZ l p (pfxFirst l p) := by
  unfold pfxFirst
  cases h : isAt l p 45
  · exact run_whole l p hp 0 (.inr ⟨rfl, h⟩) p
  · have hl := isAt_lt h
    rw [if_pos rfl, ← run_whole l (p + 1) (by omega) 1 (.inl rfl) p]
    rw [isAt_of hl] at h
    exact run_go (s' := 1) hl (by simp [-List.getD_eq_getElem?_getD] at h; simp [-List.getD_eq_getElem?_getD, stepZ, h]) (by omega) (by decide) _ _

theorem bPart_of (l : List Int) (p first : Nat) (h : p < first) : bPart l p first = if digAt l first then (digs l first, digs l first) else (p, first) := by
  unfold bPart
  rw [if_neg (by omega)]
  cases hd : digAt l first
  · rw [digs_no hd]; simp
  · have := digs_pos hd
    rw [if_neg (by omega)]; rfl
theorem bMark_e (l : List Int) (d : Nat) : bMark l d = if isE l d then (if isAt l (d + 1) 43 = true ∨ isAt l (d + 1) 45 = true then d + 2 else d + 1) else d := by
  unfold bMark isE
  cases h1 : isAt l d 101 <;> cases h2 : isAt l d 69 <;> simp
/-- The part of an exponent. -/
theorem part_mark (l : List Int) (d : Nat) (f : Int) : afterE l d f = ((bPart l d (bMark l d)).1, (bPart l d (bMark l d)).2, if (bPart l d (bMark l d)).1 > d then 2 else f) := by
  rw [bMark_e]
  unfold afterE after6
  cases he : isE l d
  · simp [bPart]
  · simp only [if_true]
    cases hd : digAt l (d + 1)
    · by_cases hs : isAt l (d + 1) 43 = true ∨ isAt l (d + 1) 45 = true
      · rw [if_pos hs, if_pos hs, bPart_of l d (d + 2) (by omega)]
        cases hd2 : digAt l (d + 2)
        · simp
        · have := digs_pos hd2
          simp [show d < digs l (d + 2) by omega]
      · rw [if_neg hs, if_neg hs, bPart_of l d (d + 1) (by omega), hd]
        simp
    · have hns : ¬ (isAt l (d + 1) 43 = true ∨ isAt l (d + 1) 45 = true) := by
        have hl := digAt_lt hd
        rw [digAt_of hl] at hd
        rw [isAt_of hl, isAt_of hl]
        have := digB_not hd
        simp only [beq_iff_eq]
        omega
      have := digs_pos hd
      rw [if_neg hns, if_neg hns, bPart_of l d (d + 1) (by omega), hd]
      simp [show d < digs l (d + 1) by omega]
theorem part_tail (l : List Int) (e : Nat) : tailZ l e = ((pfxR l e).1, (pfxR l e).2, if (pfxR l e).1 > e then 2 else 1) := by
  unfold tailZ pfxR bPoint
  cases h : isAt l e 46
  · have e1 : bPart l e e = (e, e) := by simp [bPart]
    simp only [e1, if_true, if_false, Bool.false_eq_true]
    exact part_mark l e 1
  · simp only [if_true]
    rw [bPart_of l e (e + 1) (by omega)]
    cases hd : digAt l (e + 1)
    · simp
    · have := digs_pos hd
      simp only [if_true]
      rw [part_mark]
      have h2 : digs l (e + 1) ≤ (bPart l (digs l (e + 1)) (bMark l (digs l (e + 1)))).1 := by
        unfold bPart
        repeat' split
        · exact Nat.le_refl _
        · exact Nat.le_refl _
        · rename_i h3 h4
          have h5 := (digs_le l (bMark l (digs l (e + 1)))).1
          have : digs l (e + 1) ≤ bMark l (digs l (e + 1)) := by
            unfold bMark
            repeat' split
            all_goals omega
          simp only
          omega
      have h3 : (bPart l (digs l (e + 1)) (bMark l (digs l (e + 1)))).1 > e := by omega
      rw [if_pos h3]
      split <;> rfl
theorem pfx_run (l : List Int) (p : Nat) (hp : p ≤ l.length) : run l 0 p 0 p = pfx l p := by
  rw [run0 l p hp]
  unfold wholeZ pfx bWhole
  cases h : isAt l (pfxFirst l p) 48
  · simp only [Bool.false_eq_true, if_false]
    cases hd : digAt l (pfxFirst l p)
    · rw [digs_no hd]; simp
    · have := digs_pos hd
      rw [if_neg (by omega : ¬ digs l (pfxFirst l p) = pfxFirst l p), part_tail]; rfl
  · simp only [if_true]
    rw [if_neg (by omega), part_tail]
theorem first_le {l : List Int} {p : Nat} (h : p ≤ l.length) : pfxFirst l p ≤ l.length := by
  unfold pfxFirst
  split
  · rename_i e; exact isAt_lt e
  · exact h
theorem whole_le {l : List Int} {p : Nat} (h : p ≤ l.length) : bWhole l p ≤ l.length := by
  unfold bWhole
  split
  · rename_i e; exact isAt_lt e
  · exact (digs_le l p).2 h
theorem point_le {l : List Int} {p : Nat} (h : p ≤ l.length) : bPoint l p ≤ l.length := by
  unfold bPoint
  split
  · rename_i e; exact isAt_lt e
  · exact h
theorem mark_le {l : List Int} {p : Nat} (h : p ≤ l.length) : bMark l p ≤ l.length := by
  unfold bMark
  split
  · exact h
  · rename_i e
    split
    · rename_i e2
      rcases e2 with e2 | e2
      · exact isAt_lt e2
      · exact isAt_lt e2
    · cases h1 : isAt l p 101
      · cases h2 : isAt l p 69
        · exact absurd ⟨h1, h2⟩ e
        · exact isAt_lt h2
      · exact isAt_lt h1
theorem part_le {l : List Int} {p f : Nat} (h : p ≤ l.length) (hf : f ≤ l.length) : (bPart l p f).1 ≤ l.length ∧ (bPart l p f).2 ≤ l.length := by
  unfold bPart
  have := (digs_le l f).2 hf
  repeat' split
  all_goals exact ⟨by simp only; omega, by simp only; omega⟩
theorem pfx_le (l : List Int) (p : Nat) (hp : p ≤ l.length) : (pfx l p).1 ≤ l.length ∧ (pfx l p).2.1 ≤ l.length := by
  rw [← pfx_run l p hp]
  unfold run
  generalize hm : l.length - p = m
  have : ∀ (m : Nat) (st : Int) (e : Nat) (f : Int) (k : Nat), e ≤ l.length → k + m ≤ l.length → (runF l m st e f k).1 ≤ l.length ∧ (runF l m st e f k).2.1 ≤ l.length := by
    intro m
    induction m with
    | zero => intro st e f k he hk; exact ⟨he, Nat.le_refl _⟩
    | succ m ih =>
      intro st e f k he hk
      simp only [runF]
      repeat' split
      · exact ⟨he, by simp only; omega⟩
      · exact ih _ _ _ _ (by omega) (by omega)
      · exact ih _ _ _ _ he (by omega)
  exact this m 0 p 0 p hp (by omega)
end Go.Proofs.Ytgphiollpbahgaa.mem
