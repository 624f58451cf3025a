import Derived.Test.YtechaplindbfoaaGreatDoorJpa13
import Derived.Test.YtechaplindbfoaaGreatDoorJsi3
import Derived.WalkKit
import Derived.ProofKit
import Derived.OpenShut
import Derived.ShutString
import Derived.Below
import Derived.Deep.QuietTactic
import Derived.BigQuiet
import Derived.Outline
import Derived.WalkSmall
import Derived.Laws.BytesArg
import Derived.Laws.CopyOwn
import Derived.Maps.AppendAt
import Derived.ArgAppend
import Derived.Laws.AppendOwnNone
import Derived.Deep.RegionHeld3
import GoSem.Core.Float
import Derived.OneCell
import GoSem.PinnedTables
import Derived.Laws.Shifts
import Derived.Laws.BitsAllLaws
import Derived.Deep.RegionWith
import Derived.Laws.Pointers
import Derived.Deep.DeepMust
import Derived.OrdersHeld
import Derived.Deep.MidRow
import Derived.Laws.Rows
import Derived.Laws.ResultCell
import Derived.Laws.Externs
import Derived.RegionTactic
import Derived.ChangeAlike
import Derived.Lib.ItoaLen
import Derived.Lib.AppendIntMem
import Derived.Lib.AtoiErrMem
import Derived.WalkMore
import Derived.Laws.Cover2
import Derived.Laws.FloatArith
namespace Go.Proofs.YtechaplindbfoaaGreatDoor.mem
open Go.ChangeShapes Go.WideShapes Go.ChangeAt Go.RowKit
open ints (hide unhide)
set_option linter.unusedVariables false
theorem map_set_int (k : IntKind) (l : List Int) (j : Nat) (x : Int) : (l.map (Value.int k)).set j (.int k x) = (l.set j x).map (Value.int k) := by
  rw [List.map_set]
theorem row_lit (k : IntKind) (e : TypeId) (fr : Nat × Nat) (W : World) (zs : List Int) : Row k (W.alloc (.cells (zs.map (Value.int k)).toArray e fr)) (some ⟨W.heap.size, 0, none⟩) zs.length zs.length zs := by
  refine ⟨rfl, Nat.le_refl _, (fun h => by cases h), .inr ⟨W.heap.size, 0, rfl, by simp, fun i hi => ?_⟩⟩
  rw [World.cell?_alloc_mark]
  simp [List.getD, hi]
theorem one_val (v : Value) (h : v.oneCell' = true) : ∀ u ∈ [v], u.oneCell' = true := by intro u hu; simp at hu; subst hu; exact h
theorem cellv (w : World) (x : Value) (t : TypeId) : ∀ j u, [x][j]? = some u → (w.alloc (.cells #[x] t)).cell? ((⟨w.heap.size, 0, none⟩ : Addr).add j) = some u := by
  intro j u hj
  match j, hj with
  | 0, hj => simp at hj; subst hj; simp [Addr.add]
  | (j + 1), hj => simp at hj
theorem bytesZ_at (s : ByteArray) (k : Nat) (h : k < s.size) : (bytesZ s).getD k 0 = ((s[k]'h).toNat : Int) := by
  unfold bytesZ
  rw [List.getD_eq_getElem?_getD, List.getElem?_map, Array.getElem?_toList, Array.getElem?_eq_getElem (show k < s.data.size from h)]
  rfl
theorem row_at {k : IntKind} {w : World} {base : Nat} {e : TypeId} {a : Option Addr} {n c : Nat} {zs : List Int} (h : w.ownsRow base e 1 (.slice a n c) n (zs.map (Value.int k))) : Row k w a n c zs := by
  obtain ⟨a', c', e', hr⟩ := own_row h
  simp only [Value.slice.injEq] at e'
  obtain ⟨rfl, _, rfl⟩ := e'
  exact hr
theorem own_some {w : World} {base : Nat} {e : TypeId} {v : Value} {n : Nat} {xs : List Value} (h : w.ownsRow base e 1 v n xs) (hn : 0 < n) : ∃ g cap, v = .slice (some ⟨g, 0, none⟩) n cap ∧ n ≤ cap ∧ base ≤ g ∧ g < w.heap.size ∧ cap ≤ maxLen := by
  obtain ⟨h1, h2⟩ := h
  rcases h2 with ⟨rfl, rfl⟩ | ⟨g, cap, cur, rfl, hg, hh, hnc, hcm, hcs, hx⟩
  · omega
  · exact ⟨g, cap, rfl, hnc, hg, (by rcases Nat.lt_or_ge g w.heap.size with h | h; exact h; rw [Array.getElem?_eq_none h] at hh; cases hh), hcm⟩
/-- append of a row that is read (nil or not) to a row of the call's own. -/
theorem wpList_append_row {P : Program} (w : World) {ops : Array Oper} {rest : List Oper} {o : Oper} {a : Act} {Q : Exit → Act → World → Prop} (hgd : o.guard = none) (s x : Operand) (t : TypeId)
    (ho : o.op = .call { callee := .builtin .append, args := #[s, x], argTypes := #[t, t] })
    (base : Nat) (e : TypeId) (i : TypeInfo) (k : IntKind) (bytes : Nat) (ht : P.underlying t = some (.slice e)) (hi : P.info? e = some i) (hz : i.zero = some (.int k 0))
    (hsize : i.size = 1) (hby : i.bytes = bytes)
    (v : Value) (n : Nat) (xs : List Value) (hs : a.eval s = v) (hown : w.ownsRow base e 1 v n xs)
    (ad : Option Addr) (m c : Nat) (zs : List Int) (hx : a.eval x = .slice ad m c) (hrow : Row k w ad m c zs)
    (h63 : n + m ≤ maxLen) (hbytes : (n + m) * bytes ≤ 140737488355328) (hbase : base ≤ w.heap.size)
    (h : ∀ v' w', w'.ownsRow base e 1 v' (n + m) (xs ++ zs.map (Value.int k)) → Below base w w' → wpList P ops Q rest (a.put o.dst v') w') :
    wpList P ops Q (o :: rest) a w := by
  cases ad with
  | none =>
    have hc := hrow.nil rfl
    have hm : m = 0 := by have := hrow.le; omega
    subst hc hm
    have hz0 : zs = [] := List.eq_nil_of_length_eq_zero hrow.len
    subst hz0
    exact wpList_append_own_none hgd s x t ho base e i 1 ht hi v n xs hs hown hx (h v w (by simpa using hown) (Below.refl _ _))
  | some ad =>
    refine wpList_append_own w hgd s x t ho base e i (.int k 0) 1 bytes ht hi hz hsize hby rfl (by decide) v n xs hs hown ad m c (zs.map (Value.int k)) hx (by simp [hrow.len]) (hrow.cells ad rfl) (ints_oneCell _ _) h63 hbytes hbase ?_
    intro v' w' ho' hg _
    exact h v' w' ho' ((Below.refl _ _).grown hg hbase (fun q hq => (hown.lt q hq).1))
/-- append of one value to a row of the call's own. -/
theorem wpList_append_one {P : Program} (w : World) {ops : Array Oper} {rest : List Oper} {o : Oper} {a : Act} {Q : Exit → Act → World → Prop} (hgd : o.guard = none) (s x : Operand) (t : TypeId)
    (ho : o.op = .call { callee := .builtin .append, args := #[s, x], argTypes := #[t, t] })
    (base : Nat) (e : TypeId) (i : TypeInfo) (k : IntKind) (bytes : Nat) (ht : P.underlying t = some (.slice e)) (hi : P.info? e = some i) (hz : i.zero = some (.int k 0))
    (hsize : i.size = 1) (hby : i.bytes = bytes)
    (v : Value) (n : Nat) (xs : List Value) (hs : a.eval s = v) (hown : w.ownsRow base e 1 v n xs) (u : Int)
    (hx : a.eval x = .slice (some ⟨w.heap.size, 0, none⟩) 1 1)
    (h63 : n + 1 ≤ maxLen) (hbytes : (n + 1) * bytes ≤ 140737488355328) (hbase : base ≤ w.heap.size)
    (h : ∀ v' w', w'.ownsRow base e 1 v' (n + 1) (xs ++ [.int k u]) → Below base w w' → wpList P ops Q rest (a.put o.dst v') w') :
    wpList P ops Q (o :: rest) a (w.alloc (.cells #[.int k u] e)) := by
  refine wpList_append_own _ hgd s x t ho base e i (.int k 0) 1 bytes ht hi hz hsize hby rfl (by decide) v n xs hs (hown.alloc _) ⟨w.heap.size, 0, none⟩ 1 1 [.int k u] hx rfl (cellv w _ e) (one_val _ rfl) h63 hbytes (by simp; omega) ?_
  intro v' w' ho' hg _
  exact h v' w' ho' (((Below.refl _ _).alloc hbase _).grown hg (by simp; omega) (fun q hq => (hown.lt q hq).1))
end Go.Proofs.YtechaplindbfoaaGreatDoor.mem
namespace Go.Proofs.YtechaplindbfoaaGreatDoor.mem
set_option linter.unusedVariables false

/-- Words of 32 bits, the lowest first, as one number: the first k of them. -/
def vT (zs : List Int) : Nat → Nat
  | 0 => 0
  | k + 1 => vT zs k + (zs.getD k 0).toNat * 2 ^ (32 * k)
def val (zs : List Int) : Nat := vT zs zs.length
def wds (zs : List Int) : Prop := ∀ z ∈ zs, 0 ≤ z ∧ z < 4294967296
def nrm (zs : List Int) : Prop := zs = [] ∨ zs.getD (zs.length - 1) 0 ≠ 0

theorem getD_mem {zs : List Int} {k : Nat} (h : k < zs.length) : zs.getD k 0 ∈ zs := by
  rw [List.getD_eq_getElem?_getD, List.getElem?_eq_getElem h]
  exact List.getElem_mem h
theorem wds.at {zs : List Int} (h : wds zs) (k : Nat) : 0 ≤ zs.getD k 0 ∧ zs.getD k 0 < 4294967296 := by
  by_cases hk : k < zs.length
  · exact h _ (getD_mem hk)
  · rw [List.getD_eq_getElem?_getD, List.getElem?_eq_none (by omega)]
    decide
theorem wds_nil : wds [] := by intro z hz; cases hz
theorem wds_snoc {zs : List Int} {x : Int} (h : wds zs) (hx : 0 ≤ x ∧ x < 4294967296) : wds (zs ++ [x]) := by
  intro z hz
  rcases List.mem_append.1 hz with hz | hz
  · exact h z hz
  · rw [List.mem_singleton.1 hz]; exact hx
theorem wds_take {zs : List Int} (h : wds zs) (k : Nat) : wds (zs.take k) := fun z hz => h z (List.mem_of_mem_take hz)
theorem wds_append {xs ys : List Int} (h : wds xs) (h' : wds ys) : wds (xs ++ ys) := by
  intro z hz
  rcases List.mem_append.1 hz with hz | hz
  · exact h z hz
  · exact h' z hz
theorem getD_out {zs : List Int} {k : Nat} (h : zs.length ≤ k) : zs.getD k 0 = 0 := by
  rw [List.getD_eq_getElem?_getD, List.getElem?_eq_none h]; rfl
theorem getD_left {xs ys : List Int} {k : Nat} (h : k < xs.length) : (xs ++ ys).getD k 0 = xs.getD k 0 := by
  rw [List.getD_eq_getElem?_getD, List.getD_eq_getElem?_getD, List.getElem?_append_left h]
theorem getD_right {xs ys : List Int} {k : Nat} (h : xs.length ≤ k) : (xs ++ ys).getD k 0 = ys.getD (k - xs.length) 0 := by
  rw [List.getD_eq_getElem?_getD, List.getD_eq_getElem?_getD, List.getElem?_append_right h]
theorem getD_take {zs : List Int} {j k : Nat} (h : k < j) : (zs.take j).getD k 0 = zs.getD k 0 := by
  rw [List.getD_eq_getElem?_getD, List.getD_eq_getElem?_getD, List.getElem?_take_of_lt h]

theorem vT_congr {xs ys : List Int} {k : Nat} (h : ∀ j, j < k → xs.getD j 0 = ys.getD j 0) : vT xs k = vT ys k := by
  induction k with
  | zero => rfl
  | succ k ih => simp only [vT]; rw [ih (fun j hj => h j (by omega)), h k (by omega)]
theorem vT_ext {zs : List Int} {k m : Nat} (hkm : k ≤ m) (h : ∀ j, k ≤ j → j < m → zs.getD j 0 = 0) : vT zs m = vT zs k := by
  induction m with
  | zero => rw [show k = 0 by omega]
  | succ m ih =>
    by_cases e : k = m + 1
    · rw [e]
    · simp only [vT]
      rw [ih (by omega) (fun j h1 h2 => h j h1 (by omega)), h m (by omega) (by omega)]
      simp
theorem vT_ge {zs : List Int} {k : Nat} (h : zs.length ≤ k) : vT zs k = val zs := vT_ext h (fun j hj _ => getD_out hj)
theorem pow32 (k : Nat) : 2 ^ (32 * (k + 1)) = 4294967296 * 2 ^ (32 * k) := by rw [show 32 * (k + 1) = 32 + 32 * k by omega, Nat.pow_add]
theorem toNat_lt {z : Int} (h : 0 ≤ z ∧ z < 4294967296) : z.toNat < 4294967296 := by omega
theorem vT_lt {zs : List Int} (h : wds zs) (k : Nat) : vT zs k < 2 ^ (32 * k) := by
  induction k with
  | zero => simp [vT]
  | succ k ih =>
    simp only [vT]
    rw [pow32]
    have h1 := toNat_lt (h.at k)
    have h2 := Nat.mul_le_mul_right (2 ^ (32 * k)) (show (zs.getD k 0).toNat + 1 ≤ 4294967296 by omega)
    rw [Nat.add_mul, Nat.one_mul] at h2
    omega
theorem val_lt {zs : List Int} (h : wds zs) : val zs < 2 ^ (32 * zs.length) := vT_lt h _
theorem val_nil : val [] = 0 := rfl
theorem val_snoc (zs : List Int) (x : Int) : val (zs ++ [x]) = val zs + x.toNat * 2 ^ (32 * zs.length) := by
  unfold val
  rw [List.length_append, List.length_singleton]
  simp only [vT]
  rw [vT_congr (fun j hj => getD_left hj), getD_right (Nat.le_refl _), Nat.sub_self]
  rfl
theorem val_take {zs : List Int} {j : Nat} (hj : j ≤ zs.length) (h : ∀ i, j ≤ i → i < zs.length → zs.getD i 0 = 0) : val (zs.take j) = val zs := by
  unfold val
  rw [List.length_take, Nat.min_eq_left hj, vT_congr (fun i hi => getD_take hi), vT_ext hj h]
theorem val_low {zs : List Int} {k : Nat} (hk : k < zs.length) (h : zs.getD k 0 ≠ 0) (hw : wds zs) : 2 ^ (32 * k) ≤ val zs := by
  have h1 : vT zs (k + 1) ≤ val zs := by
    unfold val
    have : ∀ m, k + 1 ≤ m → vT zs (k + 1) ≤ vT zs m := by
      intro m hm
      induction m with
      | zero => omega
      | succ m ih =>
        by_cases e : k + 1 = m + 1
        · rw [e]; exact Nat.le_refl _
        · have := ih (by omega)
          simp only [vT] at this ⊢
          omega
    exact this _ (by omega)
  have h2 : 1 ≤ (zs.getD k 0).toNat := by have := (hw.at k).1; omega
  have h3 := Nat.mul_le_mul_right (2 ^ (32 * k)) h2
  simp only [vT] at h1
  omega
theorem val_zero {zs : List Int} (hn : nrm zs) (hw : wds zs) (h : val zs = 0) : zs = [] := by
  rcases hn with h0 | h0
  · exact h0
  · cases zs with
    | nil => rfl
    | cons z r =>
      have := val_low (zs := z :: r) (k := (z :: r).length - 1) (by simp) h0 hw
      have := Nat.two_pow_pos (32 * ((z :: r).length - 1))
      omega
theorem len_le {zs : List Int} (hn : nrm zs) (hw : wds zs) {k : Nat} (h : val zs < 2 ^ (32 * k)) : zs.length ≤ k := by
  rcases hn with h0 | h0
  · rw [h0]; exact Nat.zero_le _
  · rcases Nat.eq_zero_or_pos zs.length with e | e
    · omega
    · have h1 := val_low (zs := zs) (k := zs.length - 1) (by omega) h0 hw
      have h2 : 2 ^ (32 * (zs.length - 1)) < 2 ^ (32 * k) := by omega
      have h3 := (Nat.pow_lt_pow_iff_right (a := 2) (by decide)).1 h2
      omega
theorem val_shorter {xs ys : List Int} (hx : wds xs) (hy : wds ys) (hn : nrm ys) (h : xs.length < ys.length) : val xs < val ys := by
  have h1 := val_lt hx
  rcases hn with h0 | h0
  · rw [h0] at h; simp at h
  · have h2 := val_low (zs := ys) (k := ys.length - 1) (by omega) h0 hy
    have h3 : 2 ^ (32 * xs.length) ≤ 2 ^ (32 * (ys.length - 1)) := Nat.pow_le_pow_right (by decide) (by omega)
    omega
theorem vT_up {xs ys : List Int} {i m : Nat} (him : i ≤ m) (h : vT xs i < vT ys i) (e : ∀ j, i ≤ j → j < m → xs.getD j 0 = ys.getD j 0) : vT xs m < vT ys m := by
  induction m with
  | zero => rw [show i = 0 by omega] at h; exact h
  | succ m ih =>
    by_cases e' : i = m + 1
    · rw [← e']; exact h
    · simp only [vT]
      rw [e m (by omega) (by omega)]
      have := ih (by omega) (fun j h1 h2 => e j h1 (by omega))
      omega
theorem val_less {xs ys : List Int} (hx : wds xs) (hy : wds ys) (hl : xs.length = ys.length) {i : Nat} (hi : i < xs.length) (h : xs.getD i 0 < ys.getD i 0) (e : ∀ j, i < j → j < xs.length → xs.getD j 0 = ys.getD j 0) : val xs < val ys := by
  unfold val
  rw [← hl]
  refine vT_up (i := i + 1) (by omega) ?_ (fun j h1 h2 => e j (by omega) h2)
  simp only [vT]
  have h1 := vT_lt hx i
  have h2 := (hx.at i).1
  have h3 : (xs.getD i 0).toNat + 1 ≤ (ys.getD i 0).toNat := by omega
  have h4 := Nat.mul_le_mul_right (2 ^ (32 * i)) h3
  rw [Nat.add_mul, Nat.one_mul] at h4
  omega
theorem val_eq {xs ys : List Int} (hl : xs.length = ys.length) (e : ∀ j, j < xs.length → xs.getD j 0 = ys.getD j 0) : val xs = val ys := by
  unfold val
  rw [← hl]
  exact vT_congr e
theorem val_append (xs ys : List Int) : val (xs ++ ys) = val xs + val ys * 2 ^ (32 * xs.length) := by
  have : ∀ k, vT (xs ++ ys) (xs.length + k) = val xs + vT ys k * 2 ^ (32 * xs.length) := by
    intro k
    induction k with
    | zero => rw [Nat.add_zero, vT_congr (fun j hj => getD_left hj)]; simp [vT, val]
    | succ k ih =>
      rw [← Nat.add_assoc]
      simp only [vT]
      rw [ih, getD_right (by omega), show xs.length + k - xs.length = k by omega, show 32 * (xs.length + k) = 32 * k + 32 * xs.length by omega, Nat.pow_add, Nat.add_mul]
      rw [Nat.mul_assoc]
      omega
  have h := this ys.length
  unfold val at *
  rw [List.length_append]
  exact h
theorem val_noughts (k : Nat) : val (List.replicate k 0) = 0 := by
  have : ∀ m, vT (List.replicate k 0) m = 0 := by
    intro m
    induction m with
    | zero => rfl
    | succ m ih =>
      simp only [vT]
      rw [ih]
      have : (List.replicate k (0 : Int)).getD m 0 = 0 := by
        by_cases h : m < k
        · rw [List.getD_eq_getElem?_getD, List.getElem?_replicate, if_pos h]; rfl
        · exact getD_out (by simp; omega)
      rw [this]; simp
  exact this _
theorem wds_noughts (k : Nat) : wds (List.replicate k 0) := by
  intro z hz
  rw [List.eq_of_mem_replicate hz]
  decide
theorem nrm_append {xs ys : List Int} (hn : nrm ys) (h : ys ≠ []) : nrm (xs ++ ys) := by
  refine .inr ?_
  have hp := List.length_pos_iff.2 h
  rw [List.length_append, getD_right (by omega), show xs.length + ys.length - 1 - xs.length = ys.length - 1 by omega]
  rcases hn with h0 | h0
  · exact absurd h0 h
  · exact h0
end Go.Proofs.YtechaplindbfoaaGreatDoor.mem
namespace Go.Proofs.YtechaplindbfoaaGreatDoor.mem
open Go.ChangeShapes Go.WideShapes Go.ChangeAt Go.RowKit
open ints (hide unhide)
set_option linter.unusedVariables false

theorem infoU : (Tryz.prog.info? 170).map (fun i => (i.zero, i.size, i.bytes)) = some (some (.int .u32 0), 1, 4) := by kernel_rfl
/-- A number of any size, as its words lie in a row. -/
def Big (w : World) (a : Option Addr) (n c N : Nat) : Prop := ∃ zs, Row .u32 w a n c zs ∧ wds zs ∧ nrm zs ∧ val zs = N
theorem Big.below {w w' : World} {a : Option Addr} {n c N : Nat} (h : Big w a n c N) (hb : Below w.heap.size w w') : Big w' a n c N := by
  obtain ⟨zs, r, rest⟩ := h
  exact ⟨zs, r.below hb, rest⟩
theorem Big.len {w : World} {a : Option Addr} {n c N : Nat} (h : Big w a n c N) {k : Nat} (hN : N < 2 ^ (32 * k)) : n ≤ k := by
  obtain ⟨zs, r, hw, hn, rfl⟩ := h
  rw [← r.len]
  exact len_le hn hw hN
theorem trim_any (a : Option Addr) (n c : Nat) (zs : List Int) (w : World) (h : Row .u32 w a n c zs) (hw : wds zs) (hn : n ≤ 4611686018427387904) :
    Calls Tryz.prog 165 #[.slice a n c] w fun e w' => ∃ m, e = .returned (.slice a m c) ∧ Big w' a m c (val zs) ∧ Below w.heap.size w w' := by
  have HL := hide h.len
  go_enter Tryz.func165, Tryz.ntmps165
  go_wp2
  go_loopw [0] (fun v wr => ∃ k : Nat, k ≤ n ∧ v = .slice a k c ∧ Hid (∀ i, k ≤ i → i < n → zs.getD i 0 = 0) ∧ Below w.heap.size w wr) (fun v _ => match v with | .slice _ k _ => k | _ => 0)
  case atStart => exact ⟨n, Nat.le_refl _, rfl, hide (fun i h1 h2 => by omega), Below.refl _ _⟩
  case round =>
    obtain ⟨k, hk, rfl, hz, hbel⟩ := hrel
    by_cases hlt : 0 < k
    · have ki : (0 : Int) < (k : Int) := by omega
      rcases h.at_ with h0 | ⟨b, off, rfl, hbw, hcell⟩
      · omega
      obtain ⟨q, rfl⟩ : ∃ q, k = q + 1 := ⟨k - 1, by omega⟩
      have c1 := (hbel.cell (p := ⟨b, off + q, none⟩) hbw).trans (hcell q (by omega))
      have HB := hide (h.take hk)
      have hle := h.le
      obtain ⟨y, hy⟩ : ∃ y, y = zs.getD q 0 := ⟨_, rfl⟩
      rw [← hy] at c1
      have Hy := hide hy
      clear hy hcell
      have qi : ((q + 1 : Nat) : Int) - 1 = (q : Int) := by omega
      have qi2 : (q : Int) ≤ ((q + 1 : Nat) : Int) := by omega
      cases e0 : (y == 0)
      · have HN := hide (show y ≠ 0 from by simpa using e0)
        go_wp2
        go_ret
        refine ⟨q + 1, rfl, ⟨zs.take (q + 1), (unhide HB).below hbel, wds_take hw _, .inr ?_, val_take (by rw [unhide HL]; omega) (by rw [unhide HL]; exact unhide hz)⟩, hbel⟩
        rw [List.length_take, unhide HL, Nat.min_eq_left hk, getD_take (by omega), Nat.add_sub_cancel, ← unhide Hy]
        exact unhide HN
      · have HN := hide (show y = 0 from by simpa using e0)
        go_wp2
        go_roundw
        case rel =>
          refine ⟨q, by omega, rfl, hide (fun i h1 h2 => ?_), hbel⟩
          by_cases hiq : i = q
          · subst hiq; rw [← unhide Hy]; exact unhide HN
          · exact unhide hz i (by omega) h2
        case measure => simp
    · have k0 : k = 0 := by omega
      subst k0
      go_wp2
      go_ret
      exact ⟨0, rfl, ⟨zs.take 0, (h.take (Nat.zero_le _)).below hbel, wds_take hw _, .inl (by simp), val_take (Nat.zero_le _) (by rw [unhide HL]; exact unhide hz)⟩, hbel⟩
theorem times_step {zs rs : List Int} {k C : Nat} {m d : Int} {y : Int} (hy : y = zs.getD k 0) (hy0 : 0 ≤ y) (hm0 : 0 ≤ m) (hl : rs.length = k) (h : val rs + C * 2 ^ (32 * k) = vT zs k * m.toNat + d.toNat) :
    val (rs ++ [(y * m + C) % 4294967296]) + ((y * m + C) / 4294967296).toNat * 2 ^ (32 * (k + 1)) = vT zs (k + 1) * m.toNat + d.toNat := by
  obtain ⟨Y, rfl⟩ : ∃ Y : Nat, y = Y := ⟨y.toNat, by omega⟩
  obtain ⟨M, rfl⟩ : ∃ M : Nat, m = M := ⟨m.toNat, by omega⟩
  rw [val_snoc, hl, pow32]
  simp only [vT]
  rw [← hy]
  have e1 : (((Y : Int) * (M : Int) + (C : Int)) % 4294967296).toNat = (Y * M + C) % 4294967296 := by
    rw [← Int.natCast_mul, ← Int.natCast_add]; omega
  have e2 : (((Y : Int) * (M : Int) + (C : Int)) / 4294967296).toNat = (Y * M + C) / 4294967296 := by
    rw [← Int.natCast_mul, ← Int.natCast_add]; omega
  rw [e1, e2]
  simp only [Int.toNat_natCast] at h ⊢
  have hdm := Nat.div_add_mod (Y * M + C) 4294967296
  generalize (Y * M + C) / 4294967296 = q at *
  generalize (Y * M + C) % 4294967296 = r at *
  generalize 2 ^ (32 * k) = p at *
  rw [Nat.add_mul, Nat.mul_assoc Y p M, Nat.mul_comm p M, ← Nat.mul_assoc Y M p]
  have e3 : val rs + r * p + q * (4294967296 * p) = val rs + (4294967296 * q + r) * p := by
    rw [Nat.add_mul, ← Nat.mul_assoc q, Nat.mul_comm q 4294967296]; omega
  rw [e3, hdm, Nat.add_mul]
  omega
theorem times_any (a : Option Addr) (n c : Nat) (zs : List Int) (m d : Int) (w : World) (h : Row .u32 w a n c zs) (hw : wds zs) (hm : 0 ≤ m ∧ m < 4294967296) (hd : 0 ≤ d ∧ d < 4294967296) (hn : n ≤ 1099511627776) :
    Calls Tryz.prog 145 #[.slice a n c, .int .u32 m, .int .u32 d] w fun e w' => ∃ a' n' c', e = .returned (.slice a' n' c') ∧ Big w' a' n' c' (val zs * m.toNat + d.toNat) ∧ Below w.heap.size w w' := by
  obtain ⟨i0, hi, hz0, hz1, hz2⟩ := info_parts infoU
  have HL := hide h.len
  obtain ⟨hm0, hm1⟩ := hm
  obtain ⟨hd0, hd1⟩ := hd
  go_enter Tryz.func145, Tryz.ntmps145
  go_wp2
  go_loopw [7, 8, 9] (fun r cv i wr => ∃ (k C : Nat) (rs : List Int), k ≤ n ∧ i = .int .i64 k ∧ cv = .int .u64 C ∧ C < 4294967296 ∧ wr.ownsRow w.heap.size 170 1 r k (rs.map (Value.int .u32)) ∧ Hid (wds rs ∧ rs.length = k ∧ val rs + C * 2 ^ (32 * k) = vT zs k * m.toNat + d.toNat) ∧ Below w.heap.size w wr) (fun _ _ i _ => n - (intOf i).toNat)
  case atStart => exact ⟨0, d.toNat, [], Nat.zero_le _, rfl, by go_num, by omega, World.ownsRow_nil _ _ _ _, hide ⟨wds_nil, rfl, by simp [val, vT]⟩, Below.refl _ _⟩
  case round =>
    obtain ⟨k, C, rs, hk, rfl, rfl, hC, hown, HV, hbel⟩ := hrel
    by_cases hlt : k < n
    · have ki : (k : Int) < (n : Int) := by omega
      rcases h.at_ with h0 | ⟨b, off, rfl, hbw, hcell⟩
      · omega
      have c1 := (hbel.cell (p := ⟨b, off + k, none⟩) hbw).trans (hcell k hlt)
      have hy := hw.at k
      obtain ⟨y, hye⟩ : ∃ y, y = zs.getD k 0 := ⟨_, rfl⟩
      rw [← hye] at c1 hy
      have Hy := hide hye
      obtain ⟨hy0, hy1⟩ := hy
      have hp0 : 0 ≤ y * m := Int.mul_nonneg hy0 hm0
      have hp1 : y * m ≤ 4294967295 * 4294967295 := Int.mul_le_mul (by omega) (by omega) hm0 (by omega)
      have hsz := hbel.size
      clear hye hcell
      go_wp2_with (at_builtin; go_loud (refine wpList_append_one _ rfl _ _ 158 rfl w.heap.size 170 i0 .u32 4 Tryz.underlying158 hi hz0 hz1 hz2 _ _ _ rfl hown _ rfl (by unfold maxLen; omega) (by omega) (by omega) ?_; intro v' wC hown' hbC))
      go_roundw
      case rel =>
        obtain ⟨v1, v2, v3⟩ := unhide HV
        refine ⟨k + 1, ((y * m + C) / 4294967296).toNat, rs ++ [(y * m + C) % 4294967296], by omega, by go_num, ?_, by omega, by rw [List.map_append]; exact hown', hide ⟨wds_snoc v1 (by omega), by simp [v2], times_step (unhide Hy) hy0 hm0 v2 v3⟩, hbel.trans hbC⟩
        rw [Int.toNat_of_nonneg (by omega)]
      case measure => simp [intOf]; omega
    · have ki : ¬ (k : Int) < (n : Int) := by omega
      have ek : k = n := by omega
      subst ek
      have hsz := hbel.size
      by_cases hc0 : 0 < C
      · have hci : (0 : Int) < (C : Int) := by omega
        go_wp2_with (at_builtin; refine wpList_append_one _ rfl _ _ 158 rfl w.heap.size 170 i0 .u32 4 Tryz.underlying158 hi hz0 hz1 hz2 _ _ _ rfl hown _ rfl (by unfold maxLen; omega) (by omega) (by omega) ?_; intro v' wC hown' hbC)
        obtain ⟨v1, v2, v3⟩ := unhide HV
        have HE := hide (show val (rs ++ [(C : Int)]) = val zs * m.toNat + d.toNat from by rw [val_snoc, v2, Int.toNat_natCast, v3]; unfold val; rw [unhide HL])
        have hw' := wds_snoc v1 (x := (C : Int)) (by omega)
        obtain ⟨aR, cR, rfl, rR⟩ := own_row (zs := rs ++ [(C : Int)]) (by rw [List.map_append]; exact hown')
        refine (trim_any aR (k + 1) cR _ wC rR hw' (by omega)).mono ?_
        rintro e w1 ⟨m1, rfl, B1, b1⟩
        rw [unhide HE] at B1
        have hbC := hbel.trans hbC
        clear v2 v3 HV hown hown'
        go_wp2
        go_ret
        exact ⟨aR, m1, cR, rfl, B1, hbC.trans (b1.mono hbC.size)⟩
      · have hci : ¬ (0 : Int) < (C : Int) := by omega
        obtain ⟨v1, v2, v3⟩ := unhide HV
        have HE := hide (show val rs = val zs * m.toNat + d.toNat from by rw [show C = 0 by omega] at v3; unfold val at *; rw [unhide HL]; omega)
        obtain ⟨aR, cR, rfl, rR⟩ := own_row hown
        clear v2 v3 HV hown
        go_wp2_with fail
        refine (trim_any aR k cR rs wr rR v1 (by omega)).mono ?_
        rintro e w1 ⟨m1, rfl, B1, b1⟩
        rw [unhide HE] at B1
        go_wp2
        go_ret
        exact ⟨aR, m1, cR, rfl, B1, hbel.trans (b1.mono hbel.size)⟩
theorem times_big (a : Option Addr) (n c N : Nat) (m d : Int) (w : World) (h : Big w a n c N) (hm : 0 ≤ m ∧ m < 4294967296) (hd : 0 ≤ d ∧ d < 4294967296) (hn : n ≤ 1099511627776) :
    Calls Tryz.prog 145 #[.slice a n c, .int .u32 m, .int .u32 d] w fun e w' => ∃ a' n' c', e = .returned (.slice a' n' c') ∧ Big w' a' n' c' (N * m.toNat + d.toNat) ∧ Below w.heap.size w w' := by
  obtain ⟨zs, r, hw, _, rfl⟩ := h
  exact times_any a n c zs m d w r hw hm hd hn
def cmpN (a b : Nat) : Int := if a < b then -1 else if b < a then 1 else 0
theorem cmpN_lt {a b : Nat} (h : a < b) : cmpN a b = -1 := by unfold cmpN; rw [if_pos h]
theorem cmpN_gt {a b : Nat} (h : b < a) : cmpN a b = 1 := by unfold cmpN; rw [if_neg (by omega), if_pos h]
theorem cmpN_eq {a b : Nat} (h : a = b) : cmpN a b = 0 := by unfold cmpN; rw [if_neg (by omega), if_neg (by omega)]
theorem cmpN_iff (a b : Nat) : (cmpN a b = -1 ↔ a < b) ∧ (cmpN a b = 1 ↔ b < a) ∧ (cmpN a b = 0 ↔ a = b) ∧ (0 ≤ cmpN a b ↔ b ≤ a) ∧ -1 ≤ cmpN a b ∧ cmpN a b ≤ 1 := by
  rcases Nat.lt_trichotomy a b with h | h | h
  · rw [cmpN_lt h]; omega
  · rw [cmpN_eq h]; omega
  · rw [cmpN_gt h]; omega
theorem order_any (a a' : Option Addr) (n c n' c' N N' : Nat) (w : World) (h : Big w a n c N) (h' : Big w a' n' c' N') (hn : n ≤ 1099511627776) (hn' : n' ≤ 1099511627776) :
    Calls Tryz.prog 147 #[.slice a n c, .slice a' n' c'] w fun e w' => e = .returned (.int .i64 (cmpN N N')) ∧ Below w.heap.size w w' := by
  obtain ⟨zs, r, hw, hnr, rfl⟩ := h
  obtain ⟨ys, r', hw', hnr', rfl⟩ := h'
  have HL := hide r.len
  have HL' := hide r'.len
  go_enter Tryz.func147, Tryz.ntmps147
  by_cases hl : n = n'
  · subst hl
    have hne : ((n : Int) != (n : Int)) = false := by simp
    go_wp2
    go_loopw [5] (fun i wr => ∃ k : Nat, k ≤ n ∧ i = .int .i64 ((k : Int) - 1) ∧ Hid (∀ j, k ≤ j → j < n → zs.getD j 0 = ys.getD j 0) ∧ Below w.heap.size w wr) (fun i _ => (intOf i + 1).toNat)
    case atStart => exact ⟨n, Nat.le_refl _, rfl, hide (fun j h1 h2 => by omega), Below.refl _ _⟩
    case round =>
      obtain ⟨k, hk, rfl, HE, hbel⟩ := hrel
      by_cases hlt : 0 < k
      · obtain ⟨q, rfl⟩ : ∃ q, k = q + 1 := ⟨k - 1, by omega⟩
        have e1 : ((q + 1 : Nat) : Int) - 1 = (q : Int) := by omega
        rw [e1]
        have qi : (0 : Int) ≤ (q : Int) := by omega
        have qi2 : (q : Int) < (n : Int) := by omega
        rcases r.at_ with h0 | ⟨b, off, rfl, hbw, hcell⟩
        · omega
        rcases r'.at_ with h0 | ⟨b', off', rfl, hbw', hcell'⟩
        · omega
        have c1 := (hbel.cell (p := ⟨b, off + q, none⟩) hbw).trans (hcell q (by omega))
        have c2 := (hbel.cell (p := ⟨b', off' + q, none⟩) hbw').trans (hcell' q (by omega))
        obtain ⟨x, hx⟩ : ∃ x, x = zs.getD q 0 := ⟨_, rfl⟩
        obtain ⟨y, hy⟩ : ∃ y, y = ys.getD q 0 := ⟨_, rfl⟩
        rw [← hx] at c1
        rw [← hy] at c2
        have Hx := hide hx
        have Hy := hide hy
        clear hx hy hcell hcell' e1
        rcases Int.lt_trichotomy x y with hxy | hxy | hxy
        · have HV := hide (show val zs < val ys from val_less hw hw' (by rw [unhide HL, unhide HL']) (i := q) (by rw [unhide HL]; omega) (by rw [← unhide Hx, ← unhide Hy]; exact hxy) (fun j h1 h2 => unhide HE j (by omega) (by rw [unhide HL] at h2; exact h2)))
          go_wp2
          go_quiet (fail)
          go_wp2
          go_ret
          exact ⟨by rw [cmpN_lt (unhide HV)]; rfl, below_drewN hbel _⟩
        · have HV := hide (show zs.getD q 0 = ys.getD q 0 from by rw [← unhide Hx, ← unhide Hy]; exact hxy)
          clear Hx Hy
          subst hxy
          go_wp2
          go_quiet (fail)
          go_wp2
          go_quiet (fail)
          go_wp2
          go_roundw
          case rel =>
            refine ⟨q, by omega, by go_num, hide (fun j h1 h2 => ?_), (by first | exact below_drewN hbel _ | exact below_drewN (below_drewN hbel _) _)⟩
            by_cases hj : j = q
            · subst hj; exact unhide HV
            · exact unhide HE j (by omega) h2
          case measure => first | (simp [intOf]; done) | (simp [intOf]; omega)
        · have HV := hide (show val ys < val zs from val_less hw' hw (by rw [unhide HL, unhide HL']) (i := q) (by rw [unhide HL']; omega) (by rw [← unhide Hx, ← unhide Hy]; exact hxy) (fun j h1 h2 => (unhide HE j (by omega) (by rw [unhide HL'] at h2; exact h2)).symm))
          go_wp2
          go_quiet (fail)
          go_wp2
          go_quiet (fail)
          go_wp2
          go_ret
          exact ⟨by rw [cmpN_gt (unhide HV)]; rfl, below_drewN (below_drewN hbel _) _⟩
      · have k0 : k = 0 := by omega
        subst k0
        have HV := hide (show val zs = val ys from val_eq (by rw [unhide HL, unhide HL']) (fun j hj => unhide HE j (by omega) (by rw [unhide HL] at hj; exact hj)))
        have e1 : ((0 : Nat) : Int) - 1 = -1 := by omega
        rw [e1]
        go_wp2
        go_ret
        exact ⟨by rw [cmpN_eq (unhide HV)]; rfl, hbel⟩
  · have hne : ((n : Int) != (n' : Int)) = true := by simp; omega
    by_cases hl2 : n < n'
    · have HV := hide (show val zs < val ys from val_shorter hw hw' hnr' (by rw [unhide HL, unhide HL']; exact hl2))
      have hi : (n : Int) < (n' : Int) := by omega
      go_wp2
      go_ret
      exact ⟨by rw [cmpN_lt (unhide HV)]; rfl, Below.refl _ _⟩
    · have HV := hide (show val ys < val zs from val_shorter hw' hw hnr (by rw [unhide HL, unhide HL']; omega))
      have hi : ¬ (n : Int) < (n' : Int) := by omega
      go_wp2
      go_ret
      exact ⟨by rw [cmpN_gt (unhide HV)]; rfl, Below.refl _ _⟩
end Go.Proofs.YtechaplindbfoaaGreatDoor.mem
namespace Go.Proofs.YtechaplindbfoaaGreatDoor.mem
open Go.ChangeShapes Go.WideShapes Go.ChangeAt Go.RowKit
open ints (hide unhide)
set_option linter.unusedVariables false

theorem plus_step {zs ys rs : List Int} {k C : Nat} {x y : Int} (hx : x = zs.getD k 0) (hy : y = ys.getD k 0) (hx0 : 0 ≤ x) (hy0 : 0 ≤ y) (hl : rs.length = k) (h : val rs + C * 2 ^ (32 * k) = vT zs k + vT ys k) {X : Int} (hX : X = C + x + y) :
    val (rs ++ [X % 4294967296]) + (X / 4294967296).toNat * 2 ^ (32 * (k + 1)) = vT zs (k + 1) + vT ys (k + 1) := by
  rw [val_snoc, hl, pow32]
  simp only [vT]
  rw [← hx, ← hy]
  have e0 : X.toNat = C + x.toNat + y.toNat := by omega
  have e1 : (X % 4294967296).toNat = X.toNat % 4294967296 := by omega
  have e2 : (X / 4294967296).toNat = X.toNat / 4294967296 := by omega
  rw [e1, e2]
  have hdm := Nat.div_add_mod X.toNat 4294967296
  generalize X.toNat / 4294967296 = q at *
  generalize X.toNat % 4294967296 = r at *
  generalize 2 ^ (32 * k) = p at *
  have e3 : val rs + r * p + q * (4294967296 * p) = val rs + (4294967296 * q + r) * p := by
    rw [Nat.add_mul, ← Nat.mul_assoc q, Nat.mul_comm q 4294967296]; omega
  rw [e3, hdm, e0, Nat.add_mul, Nat.add_mul]
  omega
set_option maxHeartbeats 2000000 in
theorem plus_any (a a' : Option Addr) (n c n' c' N N' : Nat) (w : World) (h : Big w a n c N) (h' : Big w a' n' c' N') (hn : n ≤ 1099511627776) (hn' : n' ≤ 1099511627776) :
    Calls Tryz.prog 164 #[.slice a n c, .slice a' n' c'] w fun e w' => ∃ a2 n2 c2, e = .returned (.slice a2 n2 c2) ∧ Big w' a2 n2 c2 (N + N') ∧ Below w.heap.size w w' := by
  obtain ⟨zs, r, hw, hnr, rfl⟩ := h
  obtain ⟨ys, r', hw', hnr', rfl⟩ := h'
  obtain ⟨i0, hi, hz0, hz1, hz2⟩ := info_parts infoU
  have HL := hide r.len
  have HL' := hide r'.len
  obtain ⟨M, hM⟩ : ∃ M, M = max n n' := ⟨_, rfl⟩
  have hM1 : n ≤ M := by omega
  have hM2 : n' ≤ M := by omega
  have hM3 : M ≤ 1099511627776 := by omega
  clear hM
  go_enter Tryz.func164, Tryz.ntmps164
  go_wp2
  go_loopw [5, 6, 7] (fun r cv i wr => ∃ (k C : Nat) (rs : List Int), k ≤ M + 1 ∧ i = .int .i64 k ∧ cv = .int .u64 C ∧ C ≤ 1 ∧ (k = M + 1 → C = 0) ∧ wr.ownsRow w.heap.size 170 1 r k (rs.map (Value.int .u32)) ∧ Hid (wds rs ∧ rs.length = k ∧ val rs + C * 2 ^ (32 * k) = vT zs k + vT ys k) ∧ Below w.heap.size w wr) (fun _ _ i _ => M + 1 - (intOf i).toNat)
  case atStart => exact ⟨0, 0, [], Nat.zero_le _, rfl, rfl, by omega, fun _ => rfl, World.ownsRow_nil _ _ _ _, hide ⟨wds_nil, rfl, by simp [val, vT]⟩, Below.refl _ _⟩
  case round =>
    obtain ⟨k, C, rs, hk, rfl, rfl, hC, hC0, hown, HV, hbel⟩ := hrel
    have hxb := hw.at k
    have hyb := hw'.at k
    have hsz := hbel.size
    by_cases hx : k < n
    · have xi : (k : Int) < (n : Int) := by omega
      rcases r.at_ with h0 | ⟨b, off, rfl, hbw, hcell⟩
      · omega
      have c1 := (hbel.cell (p := ⟨b, off + k, none⟩) hbw).trans (hcell k hx)
      obtain ⟨x, hxe⟩ : ∃ x, x = zs.getD k 0 := ⟨_, rfl⟩
      rw [← hxe] at c1 hxb
      have Hx := hide hxe
      obtain ⟨hx0, hx1⟩ := hxb
      clear hxe hcell
      by_cases hy : k < n'
      · have yi : (k : Int) < (n' : Int) := by omega
        rcases r'.at_ with h0 | ⟨b', off', rfl, hbw', hcell'⟩
        · omega
        have c2 := (hbel.cell (p := ⟨b', off' + k, none⟩) hbw').trans (hcell' k hy)
        obtain ⟨y, hye⟩ : ∃ y, y = ys.getD k 0 := ⟨_, rfl⟩
        rw [← hye] at c2 hyb
        have Hy := hide hye
        obtain ⟨hy0, hy1⟩ := hyb
        clear hye hcell'
        go_wp2_with (at_builtin; refine wpList_append_one _ rfl _ _ 158 rfl w.heap.size 170 i0 .u32 4 Tryz.underlying158 hi hz0 hz1 hz2 _ _ _ rfl hown _ rfl (by unfold maxLen; omega) (by omega) (by omega) ?_; intro v' wC hown' hbC)
        go_roundw
        case rel =>
          obtain ⟨v1, v2, v3⟩ := unhide HV
          refine ⟨k + 1, (((C : Int) + x + y) / 4294967296).toNat, rs ++ [((C : Int) + x + y) % 4294967296], by omega, by go_num, ?_, by omega, by omega, by rw [List.map_append]; exact hown', hide ⟨wds_snoc v1 (by omega), by simp [v2], plus_step (unhide Hx) (unhide Hy) hx0 hy0 v2 v3 (by omega)⟩, hbel.trans hbC⟩
          rw [Int.toNat_of_nonneg (by omega)]
        case measure => simp [intOf]; omega
      · have yi : ¬ (k : Int) < (n' : Int) := by omega
        have Hy := hide (show (0 : Int) = ys.getD k 0 from (getD_out (by rw [unhide HL']; omega)).symm)
        go_wp2_with (at_builtin; refine wpList_append_one _ rfl _ _ 158 rfl w.heap.size 170 i0 .u32 4 Tryz.underlying158 hi hz0 hz1 hz2 _ _ _ rfl hown _ rfl (by unfold maxLen; omega) (by omega) (by omega) ?_; intro v' wC hown' hbC)
        go_roundw
        case rel =>
          obtain ⟨v1, v2, v3⟩ := unhide HV
          refine ⟨k + 1, (((C : Int) + x) / 4294967296).toNat, rs ++ [((C : Int) + x) % 4294967296], by omega, by go_num, ?_, by omega, by omega, by rw [List.map_append]; exact hown', hide ⟨wds_snoc v1 (by omega), by simp [v2], plus_step (unhide Hx) (unhide Hy) hx0 (by omega) v2 v3 (by omega)⟩, hbel.trans hbC⟩
          rw [Int.toNat_of_nonneg (by omega)]
        case measure => simp [intOf]; omega
    · have xi : ¬ (k : Int) < (n : Int) := by omega
      have Hx := hide (show (0 : Int) = zs.getD k 0 from (getD_out (by rw [unhide HL]; omega)).symm)
      by_cases hy : k < n'
      · have yi : (k : Int) < (n' : Int) := by omega
        rcases r'.at_ with h0 | ⟨b', off', rfl, hbw', hcell'⟩
        · omega
        have c2 := (hbel.cell (p := ⟨b', off' + k, none⟩) hbw').trans (hcell' k hy)
        obtain ⟨y, hye⟩ : ∃ y, y = ys.getD k 0 := ⟨_, rfl⟩
        rw [← hye] at c2 hyb
        have Hy := hide hye
        obtain ⟨hy0, hy1⟩ := hyb
        clear hye hcell'
        go_wp2_with (at_builtin; refine wpList_append_one _ rfl _ _ 158 rfl w.heap.size 170 i0 .u32 4 Tryz.underlying158 hi hz0 hz1 hz2 _ _ _ rfl hown _ rfl (by unfold maxLen; omega) (by omega) (by omega) ?_; intro v' wC hown' hbC)
        go_roundw
        case rel =>
          obtain ⟨v1, v2, v3⟩ := unhide HV
          refine ⟨k + 1, (((C : Int) + y) / 4294967296).toNat, rs ++ [((C : Int) + y) % 4294967296], by omega, by go_num, ?_, by omega, by omega, by rw [List.map_append]; exact hown', hide ⟨wds_snoc v1 (by omega), by simp [v2], plus_step (unhide Hx) (unhide Hy) (by omega) hy0 v2 v3 (by omega)⟩, hbel.trans hbC⟩
          rw [Int.toNat_of_nonneg (by omega)]
        case measure => simp [intOf]; omega
      · have yi : ¬ (k : Int) < (n' : Int) := by omega
        have Hy := hide (show (0 : Int) = ys.getD k 0 from (getD_out (by rw [unhide HL']; omega)).symm)
        by_cases hc : 0 < C
        · have ci : (0 : Int) < (C : Int) := by omega
          have hkM : k ≤ M := by omega
          go_wp2_with (at_builtin; refine wpList_append_one _ rfl _ _ 158 rfl w.heap.size 170 i0 .u32 4 Tryz.underlying158 hi hz0 hz1 hz2 _ _ _ rfl hown _ rfl (by unfold maxLen; omega) (by omega) (by omega) ?_; intro v' wC hown' hbC)
          go_roundw
          case rel =>
            obtain ⟨v1, v2, v3⟩ := unhide HV
            refine ⟨k + 1, ((C : Int) / 4294967296).toNat, rs ++ [(C : Int) % 4294967296], by omega, by go_num, ?_, by omega, by omega, by rw [List.map_append, show (C : Int) % 4294967296 = (C : Int) by omega]; exact hown', hide ⟨wds_snoc v1 (by omega), by simp [v2], plus_step (unhide Hx) (unhide Hy) (by omega) (by omega) v2 v3 (by omega)⟩, hbel.trans hbC⟩
            rw [Int.toNat_of_nonneg (by omega)]
          case measure => simp [intOf]; omega
        · have ci : ¬ (0 : Int) < (C : Int) := by omega
          obtain ⟨v1, v2, v3⟩ := unhide HV
          have HE := hide (show val rs = val zs + val ys from by
            rw [show C = 0 by omega, vT_ge (by rw [unhide HL]; omega), vT_ge (by rw [unhide HL']; omega)] at v3
            omega)
          obtain ⟨aR, cR, rfl, rR⟩ := own_row hown
          clear v2 v3 HV hown Hx Hy
          go_wp2_with fail
          refine (trim_any aR k cR rs wr rR v1 (by omega)).mono ?_
          rintro e w1 ⟨m1, rfl, B1, b1⟩
          rw [unhide HE] at B1
          go_wp2
          go_ret
          exact ⟨aR, m1, cR, rfl, B1, hbel.trans (b1.mono hbel.size)⟩
theorem Big.zero {w : World} {a : Option Addr} {n c : Nat} (h : Big w a n c 0) : n = 0 := by
  obtain ⟨zs, r, hw, hn, hv⟩ := h
  have := val_zero hn hw hv
  rw [← r.len, this]; rfl
theorem Big.nonzero {w : World} {a : Option Addr} {n c N : Nat} (h : Big w a n c N) (hn : n = 0) : N = 0 := by
  obtain ⟨zs, r, hw, _, rfl⟩ := h
  have : zs = [] := List.eq_nil_of_length_eq_zero (by rw [r.len, hn])
  rw [this]; rfl
theorem big_nil (w : World) : Big w none 0 0 0 := ⟨[], ⟨rfl, Nat.le_refl _, fun _ => rfl, .inl rfl⟩, wds_nil, .inl rfl, rfl⟩
theorem pow_lt32 (k : Nat) (h : k < 32) : 2 ^ k < 4294967296 := by
  have : 2 ^ k < 2 ^ 32 := (Nat.pow_lt_pow_iff_right (by decide)).2 h
  simpa using this
end Go.Proofs.YtechaplindbfoaaGreatDoor.mem
namespace Go.Proofs.YtechaplindbfoaaGreatDoor.mem
open Go.ChangeShapes Go.WideShapes Go.ChangeAt Go.RowKit
open ints (hide unhide)
set_option linter.unusedVariables false

theorem Big.lt {w : World} {a : Option Addr} {n c N : Nat} (h : Big w a n c N) : N < 2 ^ (32 * n) := by
  obtain ⟨zs, r, hw, hn, rfl⟩ := h
  rw [← r.len]; exact val_lt hw
theorem Big.pos {w : World} {a : Option Addr} {n c N : Nat} (h : Big w a n c N) (hn : n ≠ 0) : 0 < N := by
  rcases Nat.eq_zero_or_pos N with e | e
  · subst e; exact absurd h.zero hn
  · exact e
theorem pow_mod (s : Nat) (h : s < 32) : (2 : Int) ^ s % 4294967296 = ((2 ^ s : Nat) : Int) := by
  have e : (2 : Int) ^ s = ((2 ^ s : Nat) : Int) := by rw [Int.natCast_pow]; rfl
  have := pow_lt32 s h
  rw [e]
  generalize 2 ^ s = p at *
  omega
set_option maxRecDepth 4000 in
theorem up_any (a : Option Addr) (n c N k : Nat) (w : World) (h : Big w a n c N) (hn : n ≤ 1073741824) (hk : k ≤ 1073741824) :
    Calls Tryz.prog 146 #[.slice a n c, .int .i64 (k : Int)] w fun e w' => ∃ a2 n2 c2, e = .returned (.slice a2 n2 c2) ∧ Big w' a2 n2 c2 (N * 2 ^ k) ∧ Below w.heap.size w w' := by
  obtain ⟨i0, hi, hz0, hz1, hz2⟩ := info_parts infoU
  by_cases h0 : n = 0
  · have hN := h.nonzero h0
    subst h0 hN
    go_enter Tryz.func146, Tryz.ntmps146
    go_wp2
    go_ret
    exact ⟨none, 0, 0, rfl, by rw [Nat.zero_mul]; exact big_nil _, Below.refl _ _⟩
  · have hni : ((n : Int) == 0) = false := by simp; omega
    obtain ⟨q, hq⟩ : ∃ q, q = k / 32 := ⟨_, rfl⟩
    obtain ⟨s, hs⟩ : ∃ s, s = k % 32 := ⟨_, rfl⟩
    have hkd : (k : Int) / 32 = (q : Int) := by omega
    have hkr : (k : Int) % 32 = (s : Int) := by omega
    have hs1 : s < 32 := by omega
    have hq1 : q ≤ 1073741824 := by omega
    have HK := hide (show k = 32 * q + s by omega)
    clear hq hs
    go_enter Tryz.func146, Tryz.ntmps146
    go_wp2_with (refine wpList_make_full _ rfl _ _ 158 rfl w.heap.size 170 i0 (.int .u32 0) 1 Tryz.underlying158 hi hz0 hz1 .i64 .i64 _ _ q rfl rfl rfl rfl (by rw [hz2]; omega) (by unfold maxLen; omega) (Nat.le_refl _) ?_; intro w1 hown hgrow)
    have hp2 := pow_mod s hs1
    have hp3 := pow_lt32 s hs1
    have hN0 := h.pos h0
    have hNl := h.lt
    refine (times_big a n c N _ 0 w1 (h.below (belowNone hgrow)) (by rw [hp2]; omega) (by omega) (by omega)).mono ?_
    rintro e w2 ⟨a2, n2, c2, rfl, B2, b2⟩
    rw [hp2] at B2
    have hval : N * (((2 ^ s : Nat) : Int)).toNat + (0 : Int).toNat = N * 2 ^ s := by rw [Int.toNat_natCast]; rfl
    rw [hval] at B2
    have hn2 : n2 ≤ n + 1 := B2.len (by
      rw [pow32, Nat.mul_comm 4294967296]
      exact Nat.mul_lt_mul'' hNl hp3)
    have hNs : 0 < N * 2 ^ s := Nat.mul_pos hN0 (Nat.two_pow_pos s)
    obtain ⟨ys, r2, wy, ny, vy⟩ := B2
    have o2 := own_below hown b2
    rw [Nat.mul_one, show (Value.int IntKind.u32 0).cells = #[Value.int .u32 0] from rfl, toList_madeCells_one] at o2
    have hb2 := (belowNone hgrow).trans (b2.mono (belowNone hgrow).size)
    have hs2 := hb2.size
    have HF := hide (show Big w2 a2 n2 c2 (N * 2 ^ s) from ⟨ys, r2, wy, ny, vy⟩)
    have HR := hide (show val (List.replicate q 0 ++ ys) = N * 2 ^ k from by
      rw [val_append, val_noughts, vy, List.length_replicate, unhide HK, Nat.pow_add, Nat.zero_add, Nat.mul_assoc, Nat.mul_comm (2 ^ s)])
    have HNr := hide (show nrm (List.replicate q 0 ++ ys) from nrm_append ny (by
      intro e
      rw [e, val_nil] at vy
      omega))
    clear hown hgrow b2 vy hval hp2 hNl hNs
    go_wp2_with (at_builtin; refine wpList_append_row _ rfl _ _ 158 rfl w.heap.size 170 i0 .u32 4 Tryz.underlying158 hi hz0 hz1 hz2 _ _ _ rfl o2 _ _ _ ys rfl r2 (by unfold maxLen; omega) (by omega) (by omega) ?_; intro v3 w3 o3 b3)
    go_ret
    obtain ⟨a3, c3, rfl, r3⟩ := own_row (zs := List.replicate q 0 ++ ys) (k := .u32) (by rw [List.map_append, List.map_replicate]; exact o3)
    exact ⟨a3, q + n2, c3, rfl, ⟨_, r3, wds_append (wds_noughts q) wy, unhide HNr, unhide HR⟩, hb2.trans b3⟩
end Go.Proofs.YtechaplindbfoaaGreatDoor.mem
namespace Go.Proofs.YtechaplindbfoaaGreatDoor.mem
open Go.ChangeShapes Go.WideShapes Go.ChangeAt Go.RowKit
open ints (hide unhide)
set_option linter.unusedVariables false

theorem times_len {w w' : World} {a a2 : Option Addr} {n c N n2 c2 M D : Nat} (h : Big w a n c N) (h2 : Big w' a2 n2 c2 (N * M + D)) (hM : M < 4294967296) (hD : D < 4294967296) : n2 ≤ n + 1 := by
  refine h2.len ?_
  have hl := h.lt
  rw [pow32]
  have h3 : (N + 1) * M ≤ 2 ^ (32 * n) * M := Nat.mul_le_mul_right _ hl
  have h4 : 2 ^ (32 * n) * M ≤ 2 ^ (32 * n) * 4294967295 := Nat.mul_le_mul_left _ (by omega)
  have h5 : N * M ≤ N * 4294967295 := Nat.mul_le_mul_left _ (by omega)
  have h6 : (N + 1) * 4294967295 ≤ 2 ^ (32 * n) * 4294967295 := Nat.mul_le_mul_right _ hl
  rw [Nat.add_mul, Nat.one_mul] at h6
  generalize 2 ^ (32 * n) = p at *
  omega
theorem split32 (N m : Nat) : N * (m % 4294967296) + N * (m / 4294967296) * 2 ^ 32 = N * m := by
  have h := Nat.div_add_mod m 4294967296
  have e : N * (m / 4294967296) * 2 ^ 32 = N * (4294967296 * (m / 4294967296)) := by
    rw [Nat.mul_assoc, Nat.mul_comm (m / 4294967296)]
  rw [e, Nat.add_comm, ← Nat.mul_add, h]
theorem wide_any (a : Option Addr) (n c N m : Nat) (w : World) (h : Big w a n c N) (hn : n ≤ 1000000) (hm : m < 18446744073709551616) :
    Calls Tryz.prog 141 #[.slice a n c, .int .u64 (m : Int)] w fun e w' => ∃ a2 n2 c2, e = .returned (.slice a2 n2 c2) ∧ Big w' a2 n2 c2 (N * m) ∧ Below w.heap.size w w' := by
  have hmi : (m : Int) < 18446744073709551616 := by omega
  have hm0 : (0 : Int) ≤ (m : Int) := by omega
  have e1 : ((m : Int) % 4294967296).toNat = m % 4294967296 := by omega
  have e2 : ((m : Int) / 4294967296).toNat = m / 4294967296 := by omega
  have E1 := hide e1
  have E2 := hide e2
  clear e1 e2
  go_enter Tryz.func141, Tryz.ntmps141
  go_wp2_with fail
  refine (times_big a n c N ((m : Int) % 4294967296) 0 w h (by omega) (by omega) (by omega)).mono ?_
  rintro e w1 ⟨a1, n1, c1, rfl, B1, b1⟩
  have hl1 := times_len h B1 (by omega) (by decide)
  rw [unhide E1, show (0 : Int).toNat = 0 from rfl, Nat.add_zero] at B1
  go_wp2_with fail
  refine (times_big a n c N ((m : Int) / 4294967296) 0 w1 (h.below b1) (by omega) (by omega) (by omega)).mono ?_
  rintro e w2 ⟨a2, n2, c2, rfl, B2, b2⟩
  have hl2 := times_len (h.below b1) B2 (by omega) (by decide)
  rw [unhide E2, show (0 : Int).toNat = 0 from rfl, Nat.add_zero] at B2
  have B12 := B1.below b2
  have hb2 := b1.trans (b2.mono b1.size)
  clear b1 b2 B1
  go_wp2_with fail
  refine (up_any a2 n2 c2 _ 32 w2 B2 (by omega) (by omega)).mono ?_
  rintro e w3 ⟨a3, n3, c3, rfl, B3, b3⟩
  have hl3 : n3 ≤ n2 + 1 := B3.len (by
    rw [pow32]
    have := B2.lt
    generalize 2 ^ (32 * n2) = p at *
    omega)
  have B13 := B12.below b3
  have hb3 := hb2.trans (b3.mono hb2.size)
  clear b3 B2 B12
  go_wp2_with fail
  refine (plus_any a1 a3 n1 c1 n3 c3 _ _ w3 B13 B3 (by omega) (by omega)).mono ?_
  rintro e w4 ⟨a4, n4, c4, rfl, B4, b4⟩
  rw [split32] at B4
  go_wp2
  go_ret
  exact ⟨a4, n4, c4, rfl, B4, hb3.trans (b4.mono hb3.size)⟩
theorem up_len {w w' : World} {a a2 : Option Addr} {n c N n2 c2 k : Nat} (h : Big w a n c N) (h2 : Big w' a2 n2 c2 (N * 2 ^ k)) : n2 ≤ n + k := by
  refine h2.len ?_
  have hl := h.lt
  have : N * 2 ^ k < 2 ^ (32 * n) * 2 ^ k := Nat.mul_lt_mul_of_pos_right hl (Nat.two_pow_pos k)
  rw [← Nat.pow_add] at this
  exact Nat.lt_of_lt_of_le this (Nat.pow_le_pow_right (by decide) (by omega))
theorem wide_len {w w' : World} {a a2 : Option Addr} {n c N n2 c2 m : Nat} (h : Big w a n c N) (h2 : Big w' a2 n2 c2 (N * m)) (hm : m < 18446744073709551616) : n2 ≤ n + 2 := by
  refine h2.len ?_
  have hl := h.lt
  have : N * m ≤ 2 ^ (32 * n) * m := Nat.mul_le_mul_right _ (Nat.le_of_lt hl)
  have h3 : 2 ^ (32 * n) * m < 2 ^ (32 * n) * 2 ^ 64 := Nat.mul_lt_mul_of_pos_left hm (Nat.two_pow_pos _)
  rw [← Nat.pow_add, show 32 * n + 64 = 32 * (n + 2) by omega] at h3
  omega
set_option maxRecDepth 4000 in
theorem against_pos (aT aB : Option Addr) (nT cT nB cB T B m e : Nat) (w : World) (hT : Big w aT nT cT T) (hB : Big w aB nB cB B) (hnT : nT ≤ 100000) (hnB : nB ≤ 100000) (hm : m < 18446744073709551616) (he : e ≤ 100000) :
    Calls Tryz.prog 121 #[.agg #[.slice aT nT cT, .slice aB nB cB], .int .u64 (m : Int), .int .i64 (e : Int)] w fun x w' => x = .returned (.int .i64 (cmpN T (B * m * 2 ^ e))) ∧ Below w.heap.size w w' := by
  have hei : (0 : Int) ≤ (e : Int) := by omega
  have hW := (Below.refl w.heap.size w).alloc (Nat.le_refl _) (.cells #[.slice aT nT cT, .slice aB nB cB] 160)
  have kT : (w.alloc (.cells #[.slice aT nT cT, .slice aB nB cB] 160)).cell? ⟨w.heap.size, 0, none⟩ = some (.slice aT nT cT) := by simp
  have HT := hide hT
  have KT := hide kT
  clear kT
  go_enter Tryz.func121, Tryz.ntmps121
  go_wp2_with fail
  refine (wide_any aB nB cB B m _ (hB.below hW) (by omega) hm).mono ?_
  rintro x w1 ⟨a1, n1, c1, rfl, B1, b1⟩
  have hl1 := wide_len hB B1 hm
  have k1 := (b1.cell (p := ⟨w.heap.size, 0, none⟩) (by simp)).trans (unhide KT)
  have hb1 := hW.trans (b1.mono (by simp))
  clear b1 KT hW
  go_wp2_with fail
  refine (up_any a1 n1 c1 _ e w1 B1 (by omega) (by omega)).mono ?_
  rintro x w2 ⟨a2, n2, c2, rfl, B2, b2⟩
  have hl2 := up_len B1 B2
  have hb2 := hb1.trans (b2.mono hb1.size)
  clear b2 k1
  go_wp2_with fail
  refine (order_any aT a2 nT cT n2 c2 T _ w2 ((unhide HT).below hb2) B2 (by omega) (by omega)).mono ?_
  rintro x w3 ⟨rfl, b3⟩
  go_wp2
  go_ret
  exact ⟨rfl, hb2.trans (b3.mono hb2.size)⟩
set_option maxRecDepth 4000 in
theorem against_neg (aT aB : Option Addr) (nT cT nB cB T B m e : Nat) (w : World) (hT : Big w aT nT cT T) (hB : Big w aB nB cB B) (hnT : nT ≤ 100000) (hnB : nB ≤ 100000) (hm : m < 18446744073709551616) (he : e ≤ 100000) (he0 : 0 < e) :
    Calls Tryz.prog 121 #[.agg #[.slice aT nT cT, .slice aB nB cB], .int .u64 (m : Int), .int .i64 (-(e : Int))] w fun x w' => x = .returned (.int .i64 (cmpN (T * 2 ^ e) (B * m))) ∧ Below w.heap.size w w' := by
  have hei : ¬ (0 : Int) ≤ -(e : Int) := by omega
  have hW := (Below.refl w.heap.size w).alloc (Nat.le_refl _) (.cells #[.slice aT nT cT, .slice aB nB cB] 160)
  have kT : (w.alloc (.cells #[.slice aT nT cT, .slice aB nB cB] 160)).cell? ⟨w.heap.size, 0, none⟩ = some (.slice aT nT cT) := by simp
  have HT := hide hT
  have KT := hide kT
  clear kT
  go_enter Tryz.func121, Tryz.ntmps121
  go_wp2_with fail
  refine (wide_any aB nB cB B m _ (hB.below hW) (by omega) hm).mono ?_
  rintro x w1 ⟨a1, n1, c1, rfl, B1, b1⟩
  have hl1 := wide_len hB B1 hm
  have k1 := (b1.cell (p := ⟨w.heap.size, 0, none⟩) (by simp)).trans (unhide KT)
  have hb1 := hW.trans (b1.mono (by simp))
  clear b1 KT hW
  go_wp2_with fail
  have eneg : - -(e : Int) = (e : Int) := by omega
  try rw [eneg]
  refine (up_any aT nT cT T e w1 ((unhide HT).below hb1) (by omega) (by omega)).mono ?_
  rintro x w2 ⟨a2, n2, c2, rfl, B2, b2⟩
  have hl2 := up_len hT B2
  have B1 := B1.below b2
  have hb2 := hb1.trans (b2.mono hb1.size)
  clear b2 k1
  go_wp2_with fail
  refine (order_any a2 a1 n2 c2 n1 c1 _ _ w2 B2 B1 (by omega) (by omega)).mono ?_
  rintro x w3 ⟨rfl, b3⟩
  go_wp2
  go_ret
  exact ⟨rfl, hb2.trans (b3.mono hb2.size)⟩
end Go.Proofs.YtechaplindbfoaaGreatDoor.mem
namespace Go.Proofs.YtechaplindbfoaaGreatDoor.mem
open Go.ChangeShapes Go.WideShapes Go.ChangeAt Go.RowKit
open ints (hide unhide)
set_option linter.unusedVariables false

theorem and52 (r : Nat) (h : r < 18446744073709551616) : bits .and .u64 (r : Int) 4503599627370495 = ((r % 4503599627370496 : Nat) : Int) := by
  have := u64_and_nat r 4503599627370495 (by omega) (by omega)
  rw [nat_mask52] at this
  exact this
theorem and2047 (r : Nat) (h : r < 18446744073709551616) : bits .and .u64 (r : Int) 2047 = ((r % 2048 : Nat) : Int) := by
  have := u64_and_nat r 2047 (by omega) (by omega)
  rw [nat_mask11] at this
  exact this
theorem or52 (t : Nat) (h : t < 4503599627370496) : bits .or .u64 (t : Int) 4503599627370496 = ((4503599627370496 + t : Nat) : Int) := by
  have := u64_or_nat t 4503599627370496 (by omega) (by omega)
  rw [show (t ||| 4503599627370496) = 4503599627370496 + t from by
    rw [Nat.or_comm, show (4503599627370496 : Nat) = 2 ^ 52 * 1 from rfl, Nat.two_pow_add_eq_or_of_lt (by omega)]] at this
  exact this
theorem splitX (r : Nat) (h : r < 9223372036854775808) : wrap64 (bits .and .u64 ((r : Int) / 4503599627370496) 2047) = ((r / 4503599627370496 : Nat) : Int) := by
  have e3 : (r : Int) / 4503599627370496 = ((r / 4503599627370496 : Nat) : Int) := by omega
  rw [e3, and2047 _ (by omega), Nat.mod_eq_of_lt (by omega)]
  have : r / 4503599627370496 < 2048 := by omega
  exact IntWalk.wrap64_in _ ⟨by omega, by omega⟩
theorem split_raw (r : Int) (w : World) :
    Calls Tryz.prog 118 #[.int .u64 r] w fun e w' => (e = .returned (if (wrap64 (bits .and .u64 (r / 4503599627370496) 2047) == 0) = true then .tuple #[.int .u64 (bits .and .u64 r 4503599627370495), .int .i64 (-1074)]
      else .tuple #[.int .u64 (bits .or .u64 (bits .and .u64 r 4503599627370495) 4503599627370496), .int .i64 (wrap64 (wrap64 (bits .and .u64 (r / 4503599627370496) 2047) - 1075))])) ∧ w' = w := by
  cases hx : (wrap64 (bits .and .u64 (r / 4503599627370496) 2047) == 0)
  · go_enter Tryz.func118, Tryz.ntmps118
    go_wp2
    go_ret2
    exact ⟨rfl, rfl⟩
  · go_enter Tryz.func118, Tryz.ntmps118
    go_wp2
    go_ret2
    exact ⟨rfl, rfl⟩
theorem split_any (r : Nat) (w : World) (h : r < 9223372036854775808) :
    Calls Tryz.prog 118 #[.int .u64 (r : Int)] w fun e w' => e = .returned (.tuple #[.int .u64 (mantR r : Nat), .int .i64 ((exR r : Int) - 1074)]) ∧ w' = w := by
  have hraw := split_raw (r : Int) w
  rw [splitX r h, and52 r (by omega), or52 _ (by omega)] at hraw
  refine hraw.mono ?_
  rintro e w' ⟨rfl, rfl⟩
  refine ⟨?_, rfl⟩
  have hm : r / 4503599627370496 < 2048 := by omega
  unfold mantR exR b52
  by_cases h0 : r < 4503599627370496
  · have e0 : r / 4503599627370496 = 0 := by omega
    rw [if_pos h0, e0, if_pos (by simp), Nat.mod_eq_of_lt h0]
    rfl
  · have e0 : r / 4503599627370496 ≠ 0 := by omega
    rw [if_neg h0, if_neg (by simp; omega)]
    have e1 : wrap64 (((r / 4503599627370496 : Nat) : Int) - 1075) = ((r / 4503599627370496 - 1 : Nat) : Int) - 1074 := by
      generalize r / 4503599627370496 = x at *
      have : wrap64 ((x : Int) - 1075) = (x : Int) - 1075 := IntWalk.wrap64_in _ ⟨by omega, by omega⟩
      rw [this]; omega
    rw [e1]
end Go.Proofs.YtechaplindbfoaaGreatDoor.mem
namespace Go.Proofs.YtechaplindbfoaaGreatDoor.mem
open Go.ChangeShapes Go.WideShapes Go.ChangeAt Go.RowKit
open ints (hide unhide)
set_option linter.unusedVariables false

theorem cmpN_mul (a b k : Nat) (hk : 0 < k) : cmpN (a * k) (b * k) = cmpN a b := by
  unfold cmpN
  simp only [Nat.mul_lt_mul_right hk]
theorem mantR_lt (r : Nat) : mantR r < 9007199254740992 := by
  unfold mantR b52
  split
  · omega
  · have := Nat.mod_lt r (show 4503599627370496 > 0 by decide)
    omega
/-- against, at a float's own bits: the decimal held against the float (in units of the least one). -/
theorem against_at (aT aB : Option Addr) (nT cT nB cB T B r : Nat) (w : World) (hT : Big w aT nT cT T) (hB : Big w aB nB cB B) (hnT : nT ≤ 50000) (hnB : nB ≤ 50000) (hr : r < 9223372036854775808) :
    Calls Tryz.prog 121 #[.agg #[.slice aT nT cT, .slice aB nB cB], .int .u64 (mantR r : Nat), .int .i64 ((exR r : Int) - 1074)] w fun x w' => x = .returned (.int .i64 (cmpN (T * k74) (B * vR r))) ∧ Below w.heap.size w w' := by
  have hm := mantR_lt r
  have he : exR r ≤ 2047 := by unfold exR b52; omega
  by_cases h : 1074 ≤ exR r
  · have e1 : (exR r : Int) - 1074 = ((exR r - 1074 : Nat) : Int) := by omega
    rw [e1]
    refine (against_pos aT aB nT cT nB cB T B (mantR r) (exR r - 1074) w hT hB (by omega) (by omega) (by omega) (by omega)).mono ?_
    rintro x w' ⟨rfl, b⟩
    refine ⟨?_, b⟩
    have e2 : B * vR r = B * mantR r * 2 ^ (exR r - 1074) * k74 := by
      unfold vR k74
      rw [Nat.mul_assoc (B * mantR r), ← Nat.pow_add, show exR r - 1074 + (52 + e22) = exR r from by rw [e22_eq]; omega, Nat.mul_assoc]
    rw [e2, cmpN_mul _ _ _ (by unfold k74; exact Nat.two_pow_pos _)]
  · have e1 : (exR r : Int) - 1074 = -((1074 - exR r : Nat) : Int) := by omega
    rw [e1]
    refine (against_neg aT aB nT cT nB cB T B (mantR r) (1074 - exR r) w hT hB (by omega) (by omega) (by omega) (by omega) (by omega)).mono ?_
    rintro x w' ⟨rfl, b⟩
    refine ⟨?_, b⟩
    have e2 : T * k74 = T * 2 ^ (1074 - exR r) * 2 ^ exR r := by
      unfold k74
      rw [Nat.mul_assoc, ← Nat.pow_add, show 1074 - exR r + exR r = 52 + e22 from by rw [e22_eq]; omega]
    have e3 : B * vR r = B * mantR r * 2 ^ exR r := by unfold vR; rw [Nat.mul_assoc]
    rw [e2, e3, cmpN_mul _ _ _ (Nat.two_pow_pos _)]
/-- .. and at the middle between a float and the next. -/
theorem against_half (aT aB : Option Addr) (nT cT nB cB T B r : Nat) (w : World) (hT : Big w aT nT cT T) (hB : Big w aB nB cB B) (hnT : nT ≤ 50000) (hnB : nB ≤ 50000) (hr : r < 9223372036854775808) :
    Calls Tryz.prog 121 #[.agg #[.slice aT nT cT, .slice aB nB cB], .int .u64 ((2 * mantR r + 1 : Nat) : Int), .int .i64 ((exR r : Int) - 1075)] w fun x w' => x = .returned (.int .i64 (cmpN (2 * (T * k74)) (B * (2 * vR r + 2 ^ exR r)))) ∧ Below w.heap.size w w' := by
  have hm := mantR_lt r
  have he : exR r ≤ 2047 := by unfold exR b52; omega
  have e5 : B * (2 * vR r + 2 ^ exR r) = B * (2 * mantR r + 1) * 2 ^ exR r := by
    unfold vR
    rw [Nat.mul_assoc B, Nat.add_mul (2 * mantR r), Nat.one_mul, Nat.mul_assoc 2]
  by_cases h : 1075 ≤ exR r
  · have e1 : (exR r : Int) - 1075 = ((exR r - 1075 : Nat) : Int) := by omega
    rw [e1]
    refine (against_pos aT aB nT cT nB cB T B (2 * mantR r + 1) (exR r - 1075) w hT hB (by omega) (by omega) (by omega) (by omega)).mono ?_
    rintro x w' ⟨rfl, b⟩
    refine ⟨?_, b⟩
    have e2 : 2 * (T * k74) = T * 2 ^ (52 + e22 + 1) := by
      have : 2 ^ (52 + e22 + 1) = k74 * 2 := by unfold k74; rw [← Nat.pow_succ]
      rw [this, ← Nat.mul_assoc T k74 2, Nat.mul_comm 2]
    have e3 : B * (2 * mantR r + 1) * 2 ^ exR r = B * (2 * mantR r + 1) * 2 ^ (exR r - 1075) * 2 ^ (52 + e22 + 1) := by
      rw [Nat.mul_assoc _ (2 ^ (exR r - 1075)), ← Nat.pow_add, show exR r - 1075 + (52 + e22 + 1) = exR r from by rw [e22_eq]; omega]
    rw [e5, e2, e3, cmpN_mul _ _ _ (Nat.two_pow_pos _)]
  · have e1 : (exR r : Int) - 1075 = -((1075 - exR r : Nat) : Int) := by omega
    rw [e1]
    refine (against_neg aT aB nT cT nB cB T B (2 * mantR r + 1) (1075 - exR r) w hT hB (by omega) (by omega) (by omega) (by omega) (by omega)).mono ?_
    rintro x w' ⟨rfl, b⟩
    refine ⟨?_, b⟩
    have e2 : 2 * (T * k74) = T * 2 ^ (1075 - exR r) * 2 ^ exR r := by
      have : 2 ^ (1075 - exR r) * 2 ^ exR r = k74 * 2 := by unfold k74; rw [← Nat.pow_add, ← Nat.pow_succ, show 1075 - exR r + exR r = 52 + e22 + 1 from by rw [e22_eq]; omega]
      rw [Nat.mul_assoc, this, ← Nat.mul_assoc T, Nat.mul_comm 2]
    rw [e5, e2, cmpN_mul _ _ _ (Nat.two_pow_pos _)]
theorem lo_iff {P B lo mid : Nat} (h : Lo P B lo) : B * vR mid ≤ P ↔ mid ≤ lo := by
  constructor
  · intro h1
    rcases Nat.lt_or_ge lo mid with h2 | h2
    · have h3 := Nat.mul_le_mul_left B (vR_mono_le (show lo + 1 ≤ mid from h2))
      have := h.2
      omega
    · exact h2
  · intro h1
    exact Nat.le_trans (Nat.mul_le_mul_left B (vR_mono_le h1)) h.1
theorem mantR_odd (r : Nat) : mantR r % 2 = r % 2 := by
  unfold mantR b52
  split <;> omega
theorem splitq (r : Nat) (q : Int) (hq : q = (r : Int)) (w : World) (h : r < 9223372036854775808) :
    Calls Tryz.prog 118 #[.int .u64 q] w fun e w' => e = .returned (.tuple #[.int .u64 (mantR r : Nat), .int .i64 ((exR r : Int) - 1074)]) ∧ w' = w := by
  subst hq; exact split_any r w h
theorem halfq (aT aB : Option Addr) (nT cT nB cB T B r : Nat) (q e : Int) (hq : q = ((2 * mantR r + 1 : Nat) : Int)) (he : e = (exR r : Int) - 1075) (w : World) (hT : Big w aT nT cT T) (hB : Big w aB nB cB B) (hnT : nT ≤ 50000) (hnB : nB ≤ 50000) (hr : r < 9223372036854775808) :
    Calls Tryz.prog 121 #[.agg #[.slice aT nT cT, .slice aB nB cB], .int .u64 q, .int .i64 e] w fun x w' => x = .returned (.int .i64 (cmpN (2 * (T * k74)) (B * (2 * vR r + 2 ^ exR r)))) ∧ Below w.heap.size w w' := by
  subst hq he; exact against_half aT aB nT cT nB cB T B r w hT hB hnT hnB hr
end Go.Proofs.YtechaplindbfoaaGreatDoor.mem
namespace Go.Proofs.YtechaplindbfoaaGreatDoor.mem
set_option linter.unusedVariables false

/-- The number that the first k digits write. -/
def dT (zs : List Int) : Nat → Nat
  | 0 => 0
  | k + 1 => 10 * dT zs k + (zs.getD k 0 - 48).toNat
def dig (zs : List Int) : Prop := ∀ z ∈ zs, 48 ≤ z ∧ z ≤ 57
/-- k digits of u, the lowest first; the highest first. -/
def lowD (u k : Nat) : List Int := (List.range k).map fun i => 48 + ((u / 10 ^ i % 10 : Nat) : Int)
def topD (u k : Nat) : List Int := (List.range k).map fun i => 48 + ((u / 10 ^ (k - 1 - i) % 10 : Nat) : Int)
theorem lowD_len (u k : Nat) : (lowD u k).length = k := by simp [lowD]
theorem topD_len (u k : Nat) : (topD u k).length = k := by simp [topD]
theorem lowD_succ (u k : Nat) : lowD u (k + 1) = lowD u k ++ [48 + ((u / 10 ^ k % 10 : Nat) : Int)] := by simp [lowD, List.range_succ]
theorem lowD_get {u k i : Nat} (h : i < k) : (lowD u k).getD i 0 = 48 + ((u / 10 ^ i % 10 : Nat) : Int) := by simp [lowD, List.getD, h]
theorem topD_get {u k i : Nat} (h : i < k) : (topD u k).getD i 0 = 48 + ((u / 10 ^ (k - 1 - i) % 10 : Nat) : Int) := by simp [topD, List.getD, h]
theorem topD_low {u k i : Nat} (h : i < k) : (topD u k).getD i 0 = (lowD u k).getD (k - 1 - i) 0 := by rw [topD_get h, lowD_get (by omega)]
theorem topD_dig (u k : Nat) : dig (topD u k) := by
  intro z hz
  simp only [topD, List.mem_map] at hz
  obtain ⟨i, _, rfl⟩ := hz
  have := Nat.mod_lt (u / 10 ^ (k - 1 - i)) (show 10 > 0 by decide)
  omega
theorem dT_top (u k : Nat) (hu : u < 10 ^ k) : ∀ j, j ≤ k → dT (topD u k) j = u / 10 ^ (k - j) := by
  intro j
  induction j with
  | zero => intro _; simp only [dT, Nat.sub_zero]; exact (Nat.div_eq_of_lt hu).symm
  | succ j ih =>
    intro hj
    simp only [dT]
    rw [ih (by omega), topD_get (by omega), show k - 1 - j = k - (j + 1) by omega]
    have e : u / 10 ^ (k - j) = u / 10 ^ (k - (j + 1)) / 10 := by
      rw [Nat.div_div_eq_div_mul, ← Nat.pow_succ, show (k - (j + 1)).succ = k - j by omega]
    rw [e]
    omega
theorem dT_all (u k : Nat) (hu : u < 10 ^ k) : dT (topD u k) k = u := by
  rw [dT_top u k hu k (Nat.le_refl _)]
  simp
/-- A row that is turned about from both ends, k steps of it. -/
def swp (L : List Int) (k : Nat) : List Int := (List.range L.length).map fun i => if i < k ∨ L.length - k ≤ i then L.getD (L.length - 1 - i) 0 else L.getD i 0
theorem swp_len (L : List Int) (k : Nat) : (swp L k).length = L.length := by simp [swp]
theorem swp_get {L : List Int} {k i : Nat} (h : i < L.length) : (swp L k).getD i 0 = if i < k ∨ L.length - k ≤ i then L.getD (L.length - 1 - i) 0 else L.getD i 0 := by
  simp only [swp, List.getD_eq_getElem?_getD, List.getElem?_map, List.getElem?_range h, Option.map_some, Option.getD_some]
theorem swp_zero (L : List Int) : swp L 0 = L := by
  refine getD_ext (swp_len L 0) fun j hj => ?_
  rw [swp_len] at hj
  rw [swp_get hj, if_neg (by omega)]
theorem getD_set {l : List Int} {i j : Nat} {x : Int} (hi : i < l.length) : (l.set i x).getD j 0 = if i = j then x else l.getD j 0 := by
  simp only [List.getD_eq_getElem?_getD, List.getElem?_set]
  by_cases h : i = j
  · subst h; simp [hi]
  · simp [h]
theorem swp_step {L : List Int} {k : Nat} (hk : 2 * k + 1 < L.length) :
    ((swp L k).set k ((swp L k).getD (L.length - 1 - k) 0)).set (L.length - 1 - k) ((swp L k).getD k 0) = swp L (k + 1) := by
  refine getD_ext (by simp [swp_len]) fun j hj => ?_
  have hj' : j < L.length := by simpa [swp_len] using hj
  rw [getD_set (by rw [List.length_set, swp_len]; omega), getD_set (by rw [swp_len]; omega), swp_get (k := k + 1) hj']
  by_cases h1 : L.length - 1 - k = j
  · rw [if_pos h1, if_pos (by omega), swp_get (by omega), if_neg (by omega)]
    congr 1; omega
  · rw [if_neg h1]
    by_cases h2 : k = j
    · rw [if_pos h2, if_pos (by omega), swp_get (by omega), if_neg (by omega)]
      congr 1; omega
    · rw [if_neg h2, swp_get hj']
      by_cases h3 : j < k ∨ L.length - k ≤ j
      · rw [if_pos h3, if_pos (by omega)]
      · rw [if_neg h3, if_neg (by omega)]
theorem swp_all {L : List Int} {k : Nat} (hk : k = L.length / 2) (i : Nat) (hi : i < L.length) : (swp L k).getD i 0 = L.getD (L.length - 1 - i) 0 := by
  rw [swp_get hi]
  split
  · rfl
  · congr 1; omega
theorem swp_top (u n : Nat) : swp (lowD u n) (n / 2) = topD u n := by
  refine getD_ext (by rw [swp_len, lowD_len, topD_len]) fun j hj => ?_
  rw [swp_len, lowD_len] at hj
  rw [swp_all (by rw [lowD_len]) j (by rw [lowD_len]; exact hj), lowD_len, topD_low hj]
end Go.Proofs.YtechaplindbfoaaGreatDoor.mem
namespace Go.Proofs.YtechaplindbfoaaGreatDoor.mem
open Go.ChangeShapes Go.WideShapes Go.ChangeAt Go.RowKit
open ints (hide unhide)
set_option linter.unusedVariables false

def slLen (v : Value) : Nat := match v with | .slice _ m _ => m | _ => 0
theorem own_slLen {w : World} {base : Nat} {e : TypeId} {v : Value} {n : Nat} {xs : List Value} (h : w.ownsRow base e 1 v n xs) : slLen v = n := by
  obtain ⟨_, h2⟩ := h
  rcases h2 with ⟨rfl, rfl⟩ | ⟨g, cap, cur, rfl, _⟩
  · rfl
  · rfl
theorem own_shape {w : World} {base : Nat} {e : TypeId} {v : Value} {n : Nat} {xs : List Value} (h : w.ownsRow base e 1 v n xs) : ∃ a c, v = .slice a n c := by
  obtain ⟨_, h2⟩ := h
  rcases h2 with ⟨rfl, rfl⟩ | ⟨g, cap, cur, rfl, _⟩
  · exact ⟨_, _, rfl⟩
  · exact ⟨_, _, rfl⟩
/-- What Digits writes: n digits, and no fewer would do. -/
structure Dec10 (u n : Nat) : Prop where
  pos : 0 < n
  le : n ≤ 20
  lt : u < 10 ^ n
  low : n = 1 ∨ 10 ^ (n - 1) ≤ u
set_option maxHeartbeats 1000000 in
theorem digits_any (u : Nat) (w : World) (hu : u < 18446744073709551616) :
    Calls Tryz.prog 86 #[.int .u64 (u : Int)] w fun e w' => ∃ n, Dec10 u n ∧ e = .returned (.string (strOfNums (topD u n))) ∧ Below w.heap.size w w' := by
  obtain ⟨i0, hi, hz0, hz1, hz2⟩ := info_parts info8
  go_enter Tryz.func86, Tryz.ntmps86
  go_wp2
  go_loopw [0, 3] (fun x v wr => ∃ (k U : Nat), k ≤ 20 ∧ x = .int .u64 U ∧ U < 18446744073709551616 ∧ Hid (U = u / 10 ^ k ∧ (k ≤ 1 ∨ 10 ^ (k - 1) ≤ u) ∧ (k = 20 → U = 0)) ∧ wr.ownsRow w.heap.size 5 1 v k ((lowD u k).map (Value.int .u8)) ∧ Below w.heap.size w wr) (fun _ v _ => 20 - slLen v)
  case atStart => exact ⟨0, u, Nat.zero_le _, rfl, hu, hide ⟨by simp, .inl (by omega), by omega⟩, World.ownsRow_nil _ _ _ _, Below.refl _ _⟩
  case round =>
    obtain ⟨k, U, hk, rfl, hU, HV, hown, hbel⟩ := hrel
    obtain ⟨v1, v2, v3⟩ := unhide HV
    have hsz := hbel.size
    have HS := own_slLen hown
    by_cases hgo : 0 < U ∨ k = 0
    · have hk20 : k < 20 := by
        rcases Nat.lt_or_ge k 20 with h | h
        · exact h
        · have := v3 (by omega); omega
      have hm10 : U % 10 < 10 := Nat.mod_lt _ (by decide)
      have HN := hide (show Hid (U / 10 = u / 10 ^ (k + 1) ∧ (k + 1 ≤ 1 ∨ 10 ^ (k + 1 - 1) ≤ u) ∧ (k + 1 = 20 → U / 10 = 0)) from hide ⟨by rw [v1, Nat.div_div_eq_div_mul, ← Nat.pow_succ], (by
          rcases hgo with h | h
          · right
            rw [Nat.add_sub_cancel]
            rcases Nat.lt_or_ge u (10 ^ k) with h2 | h2
            · rw [Nat.div_eq_of_lt h2] at v1; omega
            · exact h2
          · left; omega), (by
          intro h20
          have : k = 19 := by omega
          subst this
          rw [v1]
          omega)⟩)
      have HD := hide (show 48 + ((u / 10 ^ k % 10 : Nat) : Int) = 48 + (U : Int) % 10 from by rw [← v1]; omega)
      clear v1 v2 v3 HV
      have hUi : (0 : Int) ≤ (U : Int) := by omega
      have hUj : (U : Int) < 18446744073709551616 := by omega
      by_cases hU0 : 0 < U
      · have hui : (0 : Int) < (U : Int) := by omega
        clear HS
        go_wp2_with (at_builtin; refine wpList_append_one _ rfl _ _ 34 rfl w.heap.size 5 i0 .u8 1 Tryz.underlying34 hi hz0 hz1 hz2 _ _ _ rfl hown _ rfl (by unfold maxLen; omega) (by omega) (by omega) ?_; intro v' wC hown' hbC)
        go_roundw
        case rel =>
          refine ⟨k + 1, U / 10, by omega, by go_num, by omega, unhide HN, ?_, hbel.trans hbC⟩
          rw [lowD_succ, unhide HD, List.map_append]
          exact hown'
        case measure => rw [own_slLen hown', own_slLen hown]; omega
      · have hui : ¬ (0 : Int) < (U : Int) := by omega
        have hk0 : k = 0 := by omega
        subst hk0
        clear HS
        obtain ⟨a3, c3, rfl⟩ := own_shape hown
        go_wp2_with (at_builtin; refine wpList_append_one _ rfl _ _ 34 rfl w.heap.size 5 i0 .u8 1 Tryz.underlying34 hi hz0 hz1 hz2 _ _ _ rfl hown _ rfl (by unfold maxLen; omega) (by omega) (by omega) ?_; intro v' wC hown' hbC)
        go_roundw
        case rel =>
          refine ⟨0 + 1, U / 10, by omega, by go_num, by omega, unhide HN, ?_, hbel.trans hbC⟩
          rw [lowD_succ, unhide HD, List.map_append]
          exact hown'
        case measure => rw [own_slLen hown', own_slLen hown]; omega
    · have hU0 : U = 0 := by omega
      have hk0 : 0 < k := by omega
      subst hU0
      have HDec := hide (show Dec10 u k from ⟨hk0, hk, (by
        rcases Nat.lt_or_ge u (10 ^ k) with h2 | h2
        · exact h2
        · have := Nat.div_pos h2 (Nat.pow_pos (by decide) : 0 < 10 ^ k); omega), (by rcases v2 with h | h; left; omega; right; exact h)⟩)
      obtain ⟨g, cap, rfl, hnc, hg, hgl, hcm⟩ := own_some hown hk0
      have hki : ((k : Int) == 0) = false := by simp; omega
      clear v1 v2 v3 HV HS
      go_wp2
      go_loopw [4] (fun x wr => ∃ q : Nat, q ≤ k / 2 ∧ x = .int .i64 q ∧ wr.ownsRow w.heap.size 5 1 (.slice (some ⟨g, 0, none⟩) k cap) k ((swp (lowD u k) q).map (Value.int .u8)) ∧ Below w.heap.size w wr) (fun x _ => k - (intOf x).toNat)
      case atStart => exact ⟨0, Nat.zero_le _, rfl, by rw [swp_zero]; exact hown, hbel⟩
      case round =>
        obtain ⟨q, hq, rfl, hoq, hbq⟩ := hrel
        clear hown hbel hsz hgl
        by_cases hlt : q < k / 2
        · have qi : (q : Int) < (k : Int) / 2 := by omega
          obtain ⟨J, hJ⟩ : ∃ J : Nat, (k : Int) - 1 - (q : Int) = (J : Int) := ⟨k - 1 - q, by omega⟩
          have hJk : J = k - 1 - q := by omega
          have hJi : (J : Int) < (k : Int) := by omega
          have qk : (q : Int) < (k : Int) := by omega
          have hsl := swp_len (lowD u k) q
          rw [lowD_len] at hsl
          have c1 : wr.cell? ⟨g, q, none⟩ = some (.int .u8 ((swp (lowD u k) q).getD q 0)) := by
            rw [hoq.cellAt q (by omega)]
            simp [List.getD, show q < (swp (lowD u k) q).length by omega]
          have c2 : wr.cell? ⟨g, J, none⟩ = some (.int .u8 ((swp (lowD u k) q).getD J 0)) := by
            rw [hoq.cellAt J (by omega)]
            simp [List.getD, show J < (swp (lowD u k) q).length by omega]
          have f1 := hoq.frozenAt q
          obtain ⟨X, hX⟩ : ∃ X, X = (swp (lowD u k) q).getD q 0 := ⟨_, rfl⟩
          obtain ⟨Y, hY⟩ : ∃ Y, Y = (swp (lowD u k) q).getD J 0 := ⟨_, rfl⟩
          rw [← hX] at c1
          rw [← hY] at c2
          have o1 := (hoq.stored q (.int .u8 Y)).1
          have c3 : ∃ v, (wr.setCell ⟨g, q, none⟩ (.int .u8 Y)).cell? ⟨g, J, none⟩ = some v := ⟨_, by rw [o1.cellAt J (by omega), List.getElem?_eq_getElem (by rw [o1.1]; omega)]⟩
          obtain ⟨u3, c3⟩ := c3
          have f2 := o1.frozenAt J
          have o2 := (o1.stored J (.int .u8 X)).1
          have b2 : Below w.heap.size w ((wr.setCell ⟨g, q, none⟩ (.int .u8 Y)).setCell ⟨g, J, none⟩ (.int .u8 X)) := (hbq.setCell hg _).setCell hg _
          rw [map_set_int, map_set_int] at o2
          have hst := swp_step (L := lowD u k) (k := q) (by rw [lowD_len]; omega)
          rw [lowD_len, ← hJk, ← hX, ← hY] at hst
          rw [hst] at o2
          have HO := hide o2
          have HB := hide b2
          clear hst hX hY o1 o2 b2 hoq hbq hJk hsl
          go_wp2
          go_roundw
          case rel => exact ⟨q + 1, by omega, by go_num, unhide HO, unhide HB⟩
          case measure => simp [intOf]; omega
        · have qi : ¬ (q : Int) < (k : Int) / 2 := by omega
          have eq : q = k / 2 := by omega
          subst eq
          rw [swp_top] at hoq
          have hcv := row_string (P := Tryz.prog) (row_at hoq) 34 9 5 Tryz.underlying34 Tryz.underlying5 Tryz.underlying9
          clear hoq
          obtain ⟨TD, hTD⟩ : ∃ TD, TD = topD u k := ⟨_, rfl⟩
          rw [← hTD] at hcv
          have HTD := hide hTD
          clear hTD
          go_wp2
          go_ret
          exact ⟨k, unhide HDec, by rw [← unhide HTD]; rfl, hbq⟩
end Go.Proofs.YtechaplindbfoaaGreatDoor.mem
namespace Go.Proofs.YtechaplindbfoaaGreatDoor.mem
open Go.ChangeShapes Go.WideShapes Go.ChangeAt Go.RowKit
open ints (hide unhide)
set_option linter.unusedVariables false

def signL (n : Int) : List Int := if n < 0 then [45] else []
theorem neg_wrap (n : Int) (h0 : -9223372036854775808 ≤ n) (h1 : n < 0) : IntKind.u64.wrap (-IntKind.u64.wrap n) = -n := by
  simp only [IntKind.wrap, IntKind.bits, IntKind.signed]
  simp
  omega
theorem str_cat (zs ys : List Int) : strOfNums (zs ++ ys) = strOfNums zs ++ strOfNums ys := by
  unfold strOfNums
  apply ByteArray.ext
  simp
theorem wholeText_any (n : Int) (w : World) (h0 : -9223372036854775808 ≤ n) (h1 : n ≤ 9223372036854775807) :
    Calls Tryz.prog 64 #[.int .i64 n] w fun e w' => ∃ k, Dec10 n.natAbs k ∧ e = .returned (.string (strOfNums (signL n ++ topD n.natAbs k))) ∧ Below w.heap.size w w' := by
  by_cases hn : n < 0
  · have D := hide (digits_any n.natAbs w (by omega))
    have e1 : ((n.natAbs : Nat) : Int) = -n := by omega
    rw [e1] at D
    have HS := hide (show signL n = [45] from by unfold signL; rw [if_pos hn])
    generalize n.natAbs = N at *
    go_enter Tryz.func64, Tryz.ntmps64
    go_wp2_with fail
    rw [neg_wrap n h0 hn]
    refine (unhide D).mono ?_
    rintro e w1 ⟨k, hk, rfl, b1⟩
    have HK := hide hk
    have hsz : ¬ 9223372036854775807 < 1 + (strOfNums (topD N k)).size := by rw [strOfNums_size, topD_len]; have := hk.le; omega
    clear hk D e1
    obtain ⟨TD, hTD⟩ : ∃ TD, TD = topD N k := ⟨_, rfl⟩
    rw [← hTD] at hsz ⊢
    have HTD := hide hTD
    clear hTD
    go_wp2
    go_ret
    exact ⟨k, unhide HK, by rw [unhide HS, ← unhide HTD, str_cat]; rfl, b1⟩
  · have D := hide (digits_any n.natAbs w (by omega))
    have e1 : ((n.natAbs : Nat) : Int) = n := by omega
    rw [e1] at D
    have HS := hide (show signL n = [] from by unfold signL; rw [if_neg hn])
    generalize n.natAbs = N at *
    go_enter Tryz.func64, Tryz.ntmps64
    go_wp2_with fail
    refine (unhide D).mono ?_
    rintro e w1 ⟨k, hk, rfl, b1⟩
    have HK := hide hk
    clear hk D e1
    obtain ⟨TD, hTD⟩ : ∃ TD, TD = topD N k := ⟨_, rfl⟩
    rw [← hTD]
    have HTD := hide hTD
    clear hTD
    go_wp2
    go_ret
    exact ⟨k, unhide HK, by rw [unhide HS, ← unhide HTD]; rfl, b1⟩
set_option maxHeartbeats 2000000 in
theorem ofDigits_any (s : ByteArray) (w : World) (hs : s.size ≤ 100000) (hd : dig (bytesZ s)) :
    Calls Tryz.prog 143 #[.string s] w fun e w' => ∃ a n c, e = .returned (.slice a n c) ∧ Big w' a n c (dT (bytesZ s) s.size) ∧ Below w.heap.size w w' := by
  go_enter Tryz.func143, Tryz.ntmps143
  go_wp2
  go_loopw [3, 4] (fun v x wr => ∃ (i : Nat) (a : Option Addr) (n c : Nat), i ≤ s.size + 8 ∧ x = .int .i64 i ∧ v = .slice a n c ∧ n ≤ i ∧ Big wr a n c (dT (bytesZ s) (min i s.size)) ∧ Below w.heap.size w wr) (fun _ x _ => s.size + 8 - (intOf x).toNat)
  case atStart => exact ⟨0, none, 0, 0, by omega, rfl, rfl, by omega, by simp only [Nat.zero_min, dT]; exact big_nil _, Below.refl _ _⟩
  case round =>
    obtain ⟨i, a, n, c, hi, rfl, rfl, hni, hB, hbel⟩ := hrel
    by_cases hlt : i < s.size
    · have ii : (i : Int) < (s.size : Int) := by omega
      rw [Nat.min_eq_left (by omega)] at hB
      go_wp2
      go_loopw [5, 6, 7] (fun v m j wr => ∃ (t V M : Nat), t ≤ 9 ∧ i + t ≤ s.size ∧ j = .int .i64 ((i + t : Nat) : Int) ∧ v = .int .u32 V ∧ m = .int .u32 M ∧ V < M ∧ M ≤ 1000000000 ∧ Hid (M = 10 ^ t ∧ dT (bytesZ s) (i + t) = dT (bytesZ s) i * M + V) ∧ Big wr a n c (dT (bytesZ s) i) ∧ Below w.heap.size w wr) (fun _ _ j _ => s.size - (intOf j).toNat)
      case atStart => exact ⟨0, 0, 1, by omega, by omega, rfl, rfl, rfl, by omega, by omega, hide ⟨rfl, by simp⟩, hB, hbel⟩
      case round =>
        obtain ⟨t, V, M, ht, hts, rfl, rfl, rfl, hVM, hM, HV, hBr, hbr⟩ := hrel
        clear hB hbel
        have hcast : ((i + t : Nat) : Int) = (i : Int) + (t : Int) := by omega
        rw [hcast]
        by_cases hgo : i + t < s.size ∧ t < 9
        · obtain ⟨hg1, hg2⟩ := hgo
          have j1 : (i : Int) + (t : Int) < (s.size : Int) := by omega
          have j2 : (i : Int) + (t : Int) < (i : Int) + 9 := by omega
          have HZ := hide (bytesZ_at s (i + t) hg1)
          have hdd := hd _ (getD_mem (by rw [bytesZ_len]; exact hg1) : (bytesZ s).getD (i + t) 0 ∈ bytesZ s)
          rw [unhide HZ] at hdd
          obtain ⟨p1, p2⟩ := unhide HV
          have hM8 : M ≤ 100000000 := by
            rw [p1]
            have : 10 ^ t ≤ 10 ^ 8 := Nat.pow_le_pow_right (by decide) (by omega)
            simpa using this
          have HN := hide (show M * 10 = 10 ^ (t + 1) ∧ dT (bytesZ s) (i + (t + 1)) = dT (bytesZ s) i * (M * 10) + (10 * V + ((s[i + t]'hg1).toNat - 48)) from ⟨by rw [p1, Nat.pow_succ], by
            rw [← Nat.add_assoc]
            simp only [dT]
            rw [unhide HZ, p2, ← Nat.mul_assoc]
            omega⟩)
          clear p1 p2 HV HZ
          go_wp2
          go_roundw
          case rel =>
            refine ⟨t + 1, 10 * V + ((s[i + t]'hg1).toNat - 48), M * 10, by omega, by omega, by go_num, ?_, ?_, by omega, by omega, hide (unhide HN), hBr, hbr⟩
            · congr 1; omega
            · congr 1 <;> omega
          case measure => simp [intOf]; omega
        · have HT := hide (show min (i + 9) s.size = i + t by omega)
          obtain ⟨p1, p2⟩ := unhide HV
          have HN := hide (show dT (bytesZ s) i * (M : Int).toNat + (V : Int).toNat = dT (bytesZ s) (min (i + 9) s.size) from by rw [unhide HT, p2]; simp)
          clear p1 p2 HV
          have TB := hide (times_big a n c _ (M : Int) (V : Int) wr hBr (by omega) (by omega) (by omega))
          rw [unhide HN] at TB
          by_cases hs9 : i + t < s.size
          · have j1 : (i : Int) + (t : Int) < (s.size : Int) := by omega
            have j2 : ¬ (i : Int) + (t : Int) < (i : Int) + 9 := by omega
            go_wp2_with fail
            refine (unhide TB).mono ?_
            rintro e w2 ⟨a2, n2, c2, rfl, B2, b2⟩
            have hl2 := times_len hBr (M := M) (D := V) (by rw [← unhide HN] at B2; simpa using B2) (by omega) (by omega)
            clear TB hBr
            have hb2 := hbr.trans (b2.mono hbr.size)
            go_wp2
            go_roundw
            case rel => exact ⟨i + 9, a2, n2, c2, by omega, by go_num, rfl, by omega, B2, hb2⟩
            case measure => simp [intOf]; omega
          · have j1 : ¬ (i : Int) + (t : Int) < (s.size : Int) := by omega
            go_wp2_with fail
            refine (unhide TB).mono ?_
            rintro e w2 ⟨a2, n2, c2, rfl, B2, b2⟩
            have hl2 := times_len hBr (M := M) (D := V) (by rw [← unhide HN] at B2; simpa using B2) (by omega) (by omega)
            clear TB hBr
            have hb2 := hbr.trans (b2.mono hbr.size)
            go_wp2
            go_roundw
            case rel => exact ⟨i + 9, a2, n2, c2, by omega, by go_num, rfl, by omega, B2, hb2⟩
            case measure => simp [intOf]; omega
    · have ii : ¬ (i : Int) < (s.size : Int) := by omega
      rw [Nat.min_eq_right (by omega)] at hB
      go_wp2
      go_ret
      exact ⟨a, n, c, rfl, hB, hbel⟩
end Go.Proofs.YtechaplindbfoaaGreatDoor.mem
namespace Go.Proofs.YtechaplindbfoaaGreatDoor.mem
open Go.ChangeShapes Go.WideShapes Go.ChangeAt Go.RowKit
open ints (hide unhide)
set_option linter.unusedVariables false

theorem big_lit1 (w : World) : Big (w.alloc (.cells #[.int .u32 1] 170)) (some ⟨w.heap.size, 0, none⟩) 1 1 1 :=
  ⟨[1], row_lit .u32 170 (0, 0) w [1], (by intro z hz; simp at hz; omega), .inr (by decide), by simp [val, vT]⟩
set_option maxHeartbeats 1000000 in
theorem ten_any (k : Int) (w : World) (hk : k ≤ 10000) (hk0 : -10000 ≤ k) :
    Calls Tryz.prog 144 #[.int .i64 k] w fun e w' => ∃ a n c, e = .returned (.slice a n c) ∧ n ≤ k.toNat + 1 ∧ Big w' a n c (10 ^ k.toNat) ∧ Below w.heap.size w w' := by
  have HL := hide (big_lit1 w)
  have HB := hide ((Below.refl w.heap.size w).alloc (Nat.le_refl _) (.cells #[.int .u32 1] 170))
  go_enter Tryz.func144, Tryz.ntmps144
  go_wp2
  go_loopw [0, 3] (fun x v wr => ∃ (y : Int) (a : Option Addr) (n c : Nat), x = .int .i64 y ∧ y ≤ k ∧ (y = k ∨ 0 ≤ y) ∧ v = .slice a n c ∧ n ≤ (k - y).toNat + 1 ∧ Big wr a n c (10 ^ (k - y).toNat) ∧ Below w.heap.size w wr) (fun x _ _ => (intOf x).toNat)
  case atStart => exact ⟨k, some ⟨w.heap.size, 0, none⟩, 1, 1, rfl, by omega, .inl rfl, rfl, by omega, by rw [Int.sub_self]; exact unhide HL, unhide HB⟩
  case round =>
    obtain ⟨y, a, n, c, rfl, hy, hy0, rfl, hn, hB, hbel⟩ := hrel
    clear HL HB
    by_cases hgo : 9 ≤ y
    · have g1 : (9 : Int) ≤ y := hgo
      have g2 : (0 : Int) < y := by omega
      go_wp2_with fail
      refine (times_big a n c _ 1000000000 0 wr hB (by omega) (by omega) (by omega)).mono ?_
      rintro e w1 ⟨a1, n1, c1, rfl, B1, b1⟩
      have HP := hide (show 10 ^ (k - y).toNat * (1000000000 : Int).toNat + (0 : Int).toNat = 10 ^ (k - (y - 9)).toNat from by
        rw [show (k - (y - 9)).toNat = (k - y).toNat + 9 by omega, Nat.pow_add, show (1000000000 : Int).toNat = 10 ^ 9 from by decide]; exact Nat.add_zero _)
      have hl := times_len hB B1 (by decide) (by decide)
      rw [unhide HP] at B1
      have hb1 := hbel.trans (b1.mono hbel.size)
      clear hB b1
      go_wp2
      go_roundw
      case rel => exact ⟨y - 9, a1, n1, c1, by go_num, by omega, by omega, rfl, by omega, B1, hb1⟩
      case measure => simp [intOf]; omega
    · have g1 : ¬ (9 : Int) ≤ y := hgo
      go_wp2
      go_loopw [0, 3] (fun x v wr => ∃ (y : Int) (a : Option Addr) (n c : Nat), x = .int .i64 y ∧ y ≤ k ∧ (y = k ∨ 0 ≤ y) ∧ v = .slice a n c ∧ n ≤ (k - y).toNat + 1 ∧ Big wr a n c (10 ^ (k - y).toNat) ∧ Below w.heap.size w wr) (fun x _ _ => (intOf x).toNat)
      case atStart => exact ⟨y, a, n, c, rfl, hy, hy0, rfl, hn, hB, hbel⟩
      case round =>
        clear hB hbel hy hy0 hn g1 hgo
        obtain ⟨y, a, n, c, rfl, hy, hy0, rfl, hn, hB, hbel⟩ := hrel
        skip
        by_cases hgo : 1 ≤ y
        · have g1 : (1 : Int) ≤ y := hgo
          have g2 : (0 : Int) < y := by omega
          go_wp2_with fail
          refine (times_big a n c _ 10 0 wr hB (by omega) (by omega) (by omega)).mono ?_
          rintro e w1 ⟨a1, n1, c1, rfl, B1, b1⟩
          have HP := hide (show 10 ^ (k - y).toNat * (10 : Int).toNat + (0 : Int).toNat = 10 ^ (k - (y - 1)).toNat from by
            rw [show (k - (y - 1)).toNat = (k - y).toNat + 1 by omega, Nat.pow_add, show (10 : Int).toNat = 10 ^ 1 from by decide]; exact Nat.add_zero _)
          have hl := times_len hB B1 (by decide) (by decide)
          rw [unhide HP] at B1
          have hb1 := hbel.trans (b1.mono hbel.size)
          clear hB b1
          go_wp2
          go_roundw
          case rel => exact ⟨y - 1, a1, n1, c1, by go_num, by omega, by omega, rfl, by omega, B1, hb1⟩
          case measure => simp [intOf]; omega
        · have g1 : ¬ (1 : Int) ≤ y := hgo
          have g3 : ¬ (0 : Int) < y := by omega
          go_wp2
          go_ret
          have e : (k - y).toNat = k.toNat := by omega
          rw [e] at hB hn
          exact ⟨a, n, c, rfl, hn, hB, hbel⟩
end Go.Proofs.YtechaplindbfoaaGreatDoor.mem
namespace Go.Proofs.YtechaplindbfoaaGreatDoor.mem
open Go.ChangeShapes Go.WideShapes Go.ChangeAt Go.RowKit
open ints (hide unhide)
set_option linter.unusedVariables false

def Box2 (w : World) (B : Nat) (x y : Value) (t : TypeId) : Prop := w.heap[B]? = some (.cells #[x, y] t (0, 0))
theorem Box2.cells {w : World} {B : Nat} {x y : Value} {t : TypeId} (h : Box2 w B x y t) : w.cell? ⟨B, 0, none⟩ = some x ∧ w.cell? ⟨B, 1, none⟩ = some y ∧ w.frozen? ⟨B, 0, none⟩ = false ∧ w.frozen? ⟨B, 1, none⟩ = false := by
  unfold Box2 at h
  refine ⟨?_, ?_, ?_, ?_⟩
  · simp [World.cell?, h]
  · simp [World.cell?, h]
  · simp [World.frozen?, h]
  · simp [World.frozen?, h]
theorem Box2.lt {w : World} {B : Nat} {x y : Value} {t : TypeId} (h : Box2 w B x y t) : B < w.heap.size := (Array.getElem?_eq_some_iff.1 h).1
theorem Box2.below {w w' : World} {B : Nat} {x y : Value} {t : TypeId} (h : Box2 w B x y t) (hb : Below w.heap.size w w') : Box2 w' B x y t := (hb.block B h.lt).trans h
theorem Box2.set {w : World} {B : Nat} {x y : Value} {t : TypeId} (h : Box2 w B x y t) (x' y' : Value) : Box2 ((w.setCell ⟨B, 0, none⟩ x').setCell ⟨B, 1, none⟩ y') B x' y' t := by
  unfold Box2 at *
  simp [World.setCell, Array.getElem?_modify, h]
theorem box2_new (w : World) (x y : Value) (t : TypeId) : Box2 (w.alloc (.cells #[x, y] t)) w.heap.size x y t := heap_alloc_new w _
theorem Big.set2 {w : World} {a : Option Addr} {n c N B : Nat} {p p' : Option Addr} {q r q' r' : Nat} {t : TypeId} (h : Big w a n c N) (hb : Box2 w B (.slice p q r) (.slice p' q' r') t) (x y : Value) : Big ((w.setCell ⟨B, 0, none⟩ x).setCell ⟨B, 1, none⟩ y) a n c N := by
  obtain ⟨zs, rw0, rest⟩ := h
  refine ⟨zs, ⟨rw0.len, rw0.le, rw0.nil, ?_⟩, rest⟩
  rcases rw0.at_ with h0 | ⟨b, off, ha, hlt, hc⟩
  · exact .inl h0
  · refine .inr ⟨b, off, ha, by simpa using hlt, fun i hi => ?_⟩
    obtain ⟨c0, c1, _, _⟩ := hb.cells
    have h0 : (⟨b, off + i, none⟩ : Addr) ≠ ⟨B, 0, none⟩ := by
      intro e
      have := hc i hi
      rw [e, c0] at this
      cases this
    have h1 : (⟨b, off + i, none⟩ : Addr) ≠ ⟨B, 1, none⟩ := by
      intro e
      have := hc i hi
      rw [e, c1] at this
      cases this
    rw [World.cell?_setCell_other _ _ _ _ h1.symm, World.cell?_setCell_other _ _ _ _ h0.symm]
    exact hc i hi
end Go.Proofs.YtechaplindbfoaaGreatDoor.mem
namespace Go.Proofs.YtechaplindbfoaaGreatDoor.fto
open Go.ChangeShapes Go.WideShapes Go.ChangeAt Go.RowKit
open mem Go.Sort
open ints (hide unhide)
set_option linter.unusedVariables false
/-- the byte at k -/
def bz (s : ByteArray) (k : Nat) : Int := (s.data.toList.map fun b => (b.toNat : Int)).getD k 0
theorem bz_at (s : ByteArray) (k : Nat) (h : k < s.size) : bz s k = ((s[k]'h).toNat : Int) := by
  unfold bz
  have h' : k < (s.data.toList.map fun b => (b.toNat : Int)).length := by rw [List.length_map, Array.length_toList]; exact h
  rw [List.getD_eq_getElem?_getD, List.getElem?_eq_getElem h', Option.getD_some, List.getElem_map]
  rfl
end Go.Proofs.YtechaplindbfoaaGreatDoor.fto
namespace Go.Proofs.YtechaplindbfoaaGreatDoor.mem
set_option linter.unusedVariables false

def digB (c : Int) : Bool := decide (48 ≤ c) && decide (c ≤ 57)
/-- The reference. -/
def stepZ (st c : Int) : Int :=
  if st = 0 ∨ st = 1 then (if c = 45 ∧ st = 0 then 1 else if c = 48 then 2 else if digB c then 3 else -1)
  else if st = 2 ∨ st = 3 then (if digB c ∧ st = 3 then 3 else if c = 46 then 4 else if c = 101 ∨ c = 69 then 6 else -1)
  else if st = 4 then (if digB c then 5 else -1)
  else if st = 5 then (if digB c then 5 else if c = 101 ∨ c = 69 then 6 else -1)
  else if st = 6 then (if digB c then 8 else if c = 43 ∨ c = 45 then 7 else -1)
  else if st = 7 ∨ st = 8 then (if digB c then 8 else -1)
  else -1
def formZ (st : Int) : Int := if st = 2 ∨ st = 3 then 1 else if st = 5 ∨ st = 8 then 2 else 0
def runF (l : List Int) : Nat → Int → Nat → Int → Nat → Nat × Nat × Int
  | 0, _, e, f, _ => (e, l.length, f)
  | m + 1, st, e, f, k =>
    if stepZ st (l.getD k 0) < 0 then (e, k, f)
    else if formZ (stepZ st (l.getD k 0)) ≠ 0 then runF l m (stepZ st (l.getD k 0)) (k + 1) (formZ (stepZ st (l.getD k 0))) (k + 1)
    else runF l m (stepZ st (l.getD k 0)) e f (k + 1)
def run (l : List Int) (st : Int) (e : Nat) (f : Int) (k : Nat) : Nat × Nat × Int := runF l (l.length - k) st e f k
end Go.Proofs.YtechaplindbfoaaGreatDoor.mem
namespace Go.Proofs.YtechaplindbfoaaGreatDoor.mem
set_option linter.unusedVariables false

/-- digits alone -/
def Dg (l : List Int) : Prop := ∀ z ∈ l, 48 ≤ z ∧ z ≤ 57
theorem Dg.nil : Dg [] := fun _ h => by simp at h
theorem Dg.left {a b : List Int} (h : Dg (a ++ b)) : Dg a := fun z hz => h z (List.mem_append_left _ hz)
theorem Dg.right {a b : List Int} (h : Dg (a ++ b)) : Dg b := fun z hz => h z (List.mem_append_right _ hz)
/-- digits as a number -/
def dv (l : List Int) : Nat := l.foldl (fun v z => v * 10 + (z - 48).toNat) 0
theorem dv_from (l : List Int) : ∀ v : Nat, l.foldl (fun v z => v * 10 + (z - 48).toNat) v = v * 10 ^ l.length + dv l := by
  induction l with
  | nil => intro v; simp [dv]
  | cons a l ih =>
    intro v
    show l.foldl _ (v * 10 + (a - 48).toNat) = _
    have e : dv (a :: l) = l.foldl (fun v z => v * 10 + (z - 48).toNat) (0 * 10 + (a - 48).toNat) := rfl
    rw [ih, e, ih, List.length_cons, Nat.pow_succ, Nat.zero_mul, Nat.zero_add, Nat.add_mul, Nat.mul_assoc v 10, Nat.mul_comm 10 (10 ^ _)]
    omega
theorem dv_app (a b : List Int) : dv (a ++ b) = dv a * 10 ^ b.length + dv b := by
  have e : dv (a ++ b) = b.foldl (fun v z => v * 10 + (z - 48).toNat) (dv a) := List.foldl_append
  rw [e, dv_from]
theorem dv_cons (a : Int) (b : List Int) : dv (a :: b) = (a - 48).toNat * 10 ^ b.length + dv b := by
  have := dv_app [a] b
  rw [List.singleton_append] at this
  rw [this]
  simp [dv]
theorem dv_zeros (n : Nat) : dv (List.replicate n 48) = 0 := by
  induction n with
  | zero => rfl
  | succ n ih => rw [List.replicate_succ, dv_cons, ih]; simp
/-- the parts of a number's text -/
def sgL (ng : Bool) : List Int := if ng then [45] else []
end Go.Proofs.YtechaplindbfoaaGreatDoor.mem
namespace Go.Proofs.YtechaplindbfoaaGreatDoor.fto
open Go.ChangeShapes Go.WideShapes Go.ChangeAt Go.RowKit
open mem Go.Sort
open ints (hide unhide)
set_option linter.unusedVariables false
/-- the digits of a number, as codes -/
def dz (u : Nat) : List Int := (Lib.decDigits u).map fun b => (b.toNat : Int)
theorem dz_small {u : Nat} (h : u < 10) : dz u = [((48 + u : Nat) : Int)] := by
  unfold dz
  rw [Lib.decDigits, dif_pos h]
  simp only [List.map_cons, List.map_nil]
  rw [UInt8.toNat_ofNat_of_lt' (by show _ < 256; omega)]
theorem dz_big {u : Nat} (h : ¬ u < 10) : dz u = dz (u / 10) ++ [((48 + u % 10 : Nat) : Int)] := by
  unfold dz
  conv => lhs; rw [Lib.decDigits, dif_neg h]
  simp only [List.map_append, List.map_cons, List.map_nil]
  rw [UInt8.toNat_ofNat_of_lt' (by show _ < 256; omega)]
/-- a whole number's text, as codes -/
def itZ (x : Int) : List Int := sgL (decide (x < 0)) ++ dz x.natAbs
theorem u8_dz (u : Nat) : u8s (dz u) = Lib.decDigits u := by
  unfold u8s dz
  rw [List.map_map]
  conv => rhs; rw [← List.map_id (Lib.decDigits u)]
  apply List.map_congr_left
  intro b _
  simp
theorem itB_itZ (x : Int) : itB x = strOfNums (itZ x) := by
  unfold itB itZ
  rw [str_u8s, u8s_app, u8_dz]
  unfold Lib.itoa
  by_cases h : x < 0
  · rw [if_pos h, decide_eq_true h]
    rfl
  · rw [if_neg h, decide_eq_false h, show x.toNat = x.natAbs by omega]
    rfl
def Bt (l : List Int) : Prop := ∀ z ∈ l, 0 ≤ z ∧ z ≤ 255
theorem Bt.cons {a : Int} {b : List Int} (ha : 0 ≤ a ∧ a ≤ 255) (hb : Bt b) : Bt (a :: b) := fun z h => by
  rcases List.mem_cons.1 h with h | h
  · exact h ▸ ha
  · exact hb z h
theorem bz_str (zs : List Int) (h : Bt zs) (k : Nat) : bz (strOfNums zs) k = zs.getD k 0 := by
  unfold bz
  have e : (strOfNums zs).data.toList.map (fun b => (b.toNat : Int)) = zs := by
    show (List.map _ (zs.map fun n => UInt8.ofNat n.toNat).toArray.toList) = zs
    rw [List.toList_toArray, List.map_map]
    conv => rhs; rw [← List.map_id zs]
    apply List.map_congr_left
    intro z hz
    have := h z hz
    simp
    omega
  rw [e]
theorem str_size (zs : List Int) : (strOfNums zs).size = zs.length := by
  show (zs.map fun n => UInt8.ofNat n.toNat).toArray.size = _
  simp
end Go.Proofs.YtechaplindbfoaaGreatDoor.fto
namespace Go.Proofs.YtechaplindbfoaaGreatDoor.fto
open Go.ChangeShapes Go.WideShapes Go.ChangeAt Go.RowKit
open mem Go.Sort
open ints (hide unhide)
set_option linter.unusedVariables false
theorem ext_left (A B : List Int) : (strOfNums (A ++ B)).extract 0 A.length = strOfNums A := by
  apply ByteArray.ext
  rw [ByteArray.data_extract]
  show ((u8s (A ++ B)).toArray.extract 0 A.length) = (u8s A).toArray
  rw [u8s_app]
  have : A.length = (u8s A).length := by simp [u8s]
  rw [this]
  simp
end Go.Proofs.YtechaplindbfoaaGreatDoor.fto
namespace Go.Proofs.YtechaplindbfoaaGreatDoor.mem
set_option linter.unusedVariables false

/-- the floats of the powers of ten -/
def tens : List Nat := [4607182418800017408, 4621819117588971520, 4636737291354636288, 4652007308841189376, 4666723172467343360, 4681608360884174848, 4696837146684686336, 4711630319722168320, 4726483295884279808, 4741671816366391296, 4756540486875873280, 4771362005757984768, 4786511204640096256, 4801453603149578240, 4816244402031689728, 4831355200913801216, 4846369599423283200, 4861130398305394688, 4876203697187506176, 4891288408196988160, 4906019910204099648, 4921056587992461136, 4936209963552724370]
end Go.Proofs.YtechaplindbfoaaGreatDoor.mem
namespace Go.Proofs.YtechaplindbfoaaGreatDoor.fto
open Go.ChangeShapes Go.WideShapes Go.ChangeAt Go.RowKit
open mem
open ints (hide unhide)
set_option linter.unusedVariables false
/-- what atof64exact answers: a float that is right if it says so -/
def Exa (G : Nat) (e : Ending) : Prop := ∃ (G' : Nat) (ok : Bool), e = .returned (.tuple #[.float .f64 G', .bool ok]) ∧ (ok = true → G' = G)
end Go.Proofs.YtechaplindbfoaaGreatDoor.fto
namespace Go.Proofs.YtechaplindbfoaaGreatDoor.fto
open Go.ChangeShapes Go.WideShapes Go.ChangeAt Go.RowKit
open mem Go.Sort
open ints (hide unhide)
set_option linter.unusedVariables false
theorem Exa.of {G : Nat} {e : Ending} (h : Exa G e) : ∃ (G' : Nat) (ok : Bool), e = .returned (.tuple #[.float .f64 G', .bool ok]) ∧ (ok = true → G' = G) := h
end Go.Proofs.YtechaplindbfoaaGreatDoor.fto
namespace Go.Proofs.YtechaplindbfoaaGreatDoor.fto
open Go.ChangeShapes Go.WideShapes Go.ChangeAt Go.RowKit
open mem Go.Sort
open ints (hide unhide)
set_option linter.unusedVariables false
end Go.Proofs.YtechaplindbfoaaGreatDoor.fto
namespace Go.Proofs.YtechaplindbfoaaGreatDoor.fto
open Go.ChangeShapes Go.WideShapes Go.ChangeAt Go.RowKit
open mem Go.Sort
open ints (hide unhide)
set_option linter.unusedVariables false
theorem str_app (A B : List Int) : strOfNums A ++ strOfNums B = strOfNums (A ++ B) := by
  apply ByteArray.ext
  rw [ByteArray.data_append]
  show (u8s A).toArray ++ (u8s B).toArray = (u8s (A ++ B)).toArray
  rw [u8s_app]
  simp
end Go.Proofs.YtechaplindbfoaaGreatDoor.fto
namespace Go.Proofs.YtechaplindbfoaaGreatDoor.fto
open Go.ChangeShapes Go.WideShapes Go.ChangeAt Go.RowKit
open mem Go.Sort
open ints (hide unhide)
set_option linter.unusedVariables false
/-- the digits that are kept, as a number -/
theorem dv_dgs (d : Nat) : ∀ k, k ≤ Lib.nDigits d → dv (dgs d k) = d / 10 ^ (Lib.nDigits d - k) := by
  intro k
  induction k with
  | zero =>
    intro _
    rw [Nat.sub_zero, Nat.div_eq_of_lt (Lib.lt_pow_nDigits d)]
    rfl
  | succ k ih =>
    intro hk
    have e : dgs d (k + 1) = dgs d k ++ [dgt d (Lib.nDigits d) k] := by simp [dgs, List.range_succ]
    rw [e, dv_app, ih (by omega), dv_cons, dgt_eq]
    have e1 : Lib.nDigits d - k = (Lib.nDigits d - 1 - k) + 1 := by omega
    have e2 : Lib.nDigits d - (k + 1) = Lib.nDigits d - 1 - k := by omega
    rw [e1, e2, Nat.pow_succ, ← Nat.div_div_eq_div_mul]
    generalize d / 10 ^ (Lib.nDigits d - 1 - k) = y
    simp [dv]
    omega
theorem dgs_split (d k : Nat) (hk : k ≤ Lib.nDigits d) (h0 : ∀ j, k ≤ j → j < Lib.nDigits d → dgt d (Lib.nDigits d) j = 48) : dgs d (Lib.nDigits d) = dgs d k ++ List.replicate (Lib.nDigits d - k) 48 := by
  apply List.ext_getElem
  · simp [dgs_len]; omega
  · intro i h1 h2
    rw [dgs_len] at h1
    by_cases hi : i < k
    · rw [List.getElem_append_left (by rw [dgs_len]; exact hi)]
      simp [dgs]
    · rw [List.getElem_append_right (by rw [dgs_len]; omega), List.getElem_replicate]
      simp only [dgs, List.getElem_map, List.getElem_range]
      exact h0 i (by omega) h1
theorem kept_val {d k : Nat} (hk : Kept d k) : d = dv (dgs d k) * 10 ^ (Lib.nDigits d - k) := by
  obtain ⟨h1, h2, h3, h4⟩ := hk
  have e1 := dv_dgs d (Lib.nDigits d) (Nat.le_refl _)
  rw [Nat.sub_self, Nat.pow_zero, Nat.div_one, dgs_split d k h2 h3, dv_app, dv_zeros, List.length_replicate, Nat.add_zero] at e1
  exact e1.symm
theorem dgs_first (d k : Nat) (hd : 1 ≤ d) (hk : 1 ≤ k) : ∀ r, dgs d k ≠ 48 :: r := by
  intro r h
  rw [dgs_cons d k hk] at h
  have h0 : dgt d (Lib.nDigits d) 0 = 48 := by simpa using (List.cons.inj h).1
  rw [dgt_eq] at h0
  obtain ⟨a1, a2, a3⟩ := nd_pow d hd
  rw [Nat.sub_zero] at h0
  have hp : 0 < 10 ^ (Lib.nDigits d - 1) := Nat.pow_pos (by decide)
  have b1 : 1 ≤ d / 10 ^ (Lib.nDigits d - 1) := by rw [Nat.le_div_iff_mul_le hp, Nat.one_mul]; exact a1
  have b2 : d / 10 ^ (Lib.nDigits d - 1) < 10 := by
    rw [Nat.div_lt_iff_lt_mul hp]
    have : 10 * 10 ^ (Lib.nDigits d - 1) = 10 ^ Lib.nDigits d := by
      conv => rhs; rw [show Lib.nDigits d = (Lib.nDigits d - 1) + 1 by omega, Nat.pow_succ]
      rw [Nat.mul_comm]
    omega
  rw [Nat.mod_eq_of_lt b2] at h0
  omega
theorem rpB_eq (n : Nat) : rpB n = strOfNums (List.replicate n 48) := by
  have e : ∀ n, Lib.repeatL [48] n = u8s (List.replicate n 48) := by
    intro n
    induction n with
    | zero => rfl
    | succ n ih => rw [Lib.repeatL, ih, List.replicate_succ]; rfl
  unfold rpB
  rw [e]
  rfl
end Go.Proofs.YtechaplindbfoaaGreatDoor.fto
