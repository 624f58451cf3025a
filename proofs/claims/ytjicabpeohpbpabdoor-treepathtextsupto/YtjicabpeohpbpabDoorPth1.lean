import Derived.Test.YtjicabpeohpbpabDoorTxt
import Derived.Test.YtjicabpeohpbpabDoorShelf
import Derived.Lib.AppendStr
import Derived.Lib.ItoaLen
import Derived.Lib.AppendIntMem
import Derived.Laws.AppendOwnNone
import Derived.OwnWalk
import Derived.Deep.AppendLies
namespace Go.Proofs.YtjicabpeohpbpabDoor.stp
open Go.ChangeShapes Go.WideShapes Go.ChangeAt Go.RowKit
set_option linter.unusedVariables false
theorem info8 : (Tryd.prog.info? 5).map (fun i => (i.zero, i.size, i.bytes)) = some (some (.int .u8 0), 1, 1) := by kernel_rfl
abbrev bc (l : List UInt8) : List Value := Lib.byteCells l
theorem strCells_eq (s : ByteArray) : Lib.strCells s = bc s.data.toList := rfl
/-- a text that grows: the bytes L lie in the row v of the call's own -/
def Own8 (w : World) (B : Nat) (v : Value) (L : List UInt8) : Prop := w.ownsRow B 5 1 v L.length (bc L)
theorem str_get (s : ByteArray) (k : Nat) (h : k < s.size) : s.data.toList[k]? = some (s[k]'h) := by
  rw [Array.getElem?_toList, Array.getElem?_eq_getElem (show k < s.data.size from h)]
  rfl
theorem str_ne {s : ByteArray} (h : 0 < s.size) : s.toList.isEmpty = false ∧ ∃ r, s.data.toList = (s[0]'h) :: r := by
  have e := str_get s 0 h
  rw [toList_data]
  cases hl : s.data.toList with
  | nil => rw [hl] at e; simp at e
  | cons c r =>
    rw [hl] at e
    simp at e
    exact ⟨rfl, r, by rw [e]⟩
def beg (s : ByteArray) : Bool := s.size != 0 && guardN s.data.toList
theorem begins_any (s : ByteArray) (w : World) : Calls Tryd.prog 16 #[.string s] w fun e w' => e = .returned (.bool (beg s)) ∧ Below w.heap.size w w' := by
  by_cases h0 : 0 < s.size
  · obtain ⟨he, r, hr⟩ := str_ne h0
    have hne : ¬ s.toList = [] := by intro e; rw [e] at he; cases he
    have hb : Hid (beg s = numB (s[0]'h0)) := by
      show beg s = numB (s[0]'h0)
      unfold beg
      rw [hr, show (s.size != 0) = true from by rw [bne_iff_ne]; omega]
      rfl
    clear hr
    by_cases c1 : ((s[0]'h0).toNat : Int) = 45
    · have hn : Hid (numB (s[0]'h0) = true) := by
        show numB (s[0]'h0) = true
        have : s[0]'h0 = 45 := by apply UInt8.toNat_inj.1; simpa using (by omega : (s[0]'h0).toNat = 45)
        rw [this]
        decide
      go_enter Tryd.func16, Tryd.ntmps16
      go_wp2
      go_ret
      exact ⟨by rw [unhide hb, unhide hn]; simp, Below.refl _ _⟩
    · have c1b : Hid ((s[0]'h0 == 45) = false) := by
        show (s[0]'h0 == 45) = false
        simp
        intro e
        rw [e] at c1
        exact c1 rfl
      by_cases c2 : 48 ≤ ((s[0]'h0).toNat : Int)
      · by_cases c3 : ((s[0]'h0).toNat : Int) ≤ 57
        · have hn : Hid (numB (s[0]'h0) = true) := by
            show numB (s[0]'h0) = true
            unfold numB
            rw [unhide c1b]
            simp
            omega
          go_enter Tryd.func16, Tryd.ntmps16
          go_wp2
          go_ret
          exact ⟨by rw [unhide hb, unhide hn]; simp, Below.refl _ _⟩
        · have hn : Hid (numB (s[0]'h0) = false) := by
            show numB (s[0]'h0) = false
            unfold numB
            rw [unhide c1b]
            simp
            omega
          go_enter Tryd.func16, Tryd.ntmps16
          go_wp2
          go_ret
          exact ⟨by rw [unhide hb, unhide hn]; simp [c1], Below.refl _ _⟩
      · have hn : Hid (numB (s[0]'h0) = false) := by
          show numB (s[0]'h0) = false
          unfold numB
          rw [unhide c1b]
          simp
          omega
        go_enter Tryd.func16, Tryd.ntmps16
        go_wp2
        go_ret
        exact ⟨by rw [unhide hb, unhide hn]; simp [c1], Below.refl _ _⟩
  · have hz : s.size = 0 := by omega
    have hb : Hid (beg s = false) := by
      show beg s = false
      simp [beg, hz]
    have he : s.toList = [] := by
      rw [toList_data]
      exact List.eq_nil_of_length_eq_zero (by rw [Array.length_toList]; exact hz)
    go_enter Tryd.func16, Tryd.ntmps16
    go_wp2
    go_ret
    exact ⟨by rw [unhide hb]; rfl, Below.refl _ _⟩
theorem wp_str {P : Program} (w : World) {ops : Array Oper} {rest : List Oper} {o : Oper} {a : Act} {Q : Exit → Act → World → Prop} (hgd : o.guard = none) (sl x : Operand) (t u : TypeId)
    (ho : o.op = .call { callee := .builtin .append, args := #[sl, x], argTypes := #[t, u] })
    (B : Nat) (i : TypeInfo) (ht : P.underlying t = some (.slice 5)) (hu : P.underlying u = some .string) (hi : P.info? 5 = some i) (hz : i.zero = some (.int .u8 0)) (hsize : i.size = 1) (hby : i.bytes = 1)
    (v : Value) (L : List UInt8) (hs : a.eval sl = v) (hown : Own8 w B v L) (l : List UInt8) (hx : a.eval x = .string ⟨l.toArray⟩)
    (hb : L.length + l.length ≤ 140737488355328) (hbase : B ≤ w.heap.size)
    (h : ∀ v' w', Own8 w' B v' (L ++ l) → Below B w w' → wpList P ops Q rest (a.put o.dst v') w') : wpList P ops Q (o :: rest) a w := by
  have es : (⟨l.toArray⟩ : ByteArray).size = l.length := rfl
  refine Lib.wpList_append_own_string w hgd sl x t u ho B 5 i ht hu hi hz hsize hby v L.length (bc L) hs hown ⟨l.toArray⟩ hx (by rw [es]; unfold maxLen; omega) (by rw [es]; exact hb) hbase ?_
  intro v' w' ho' hg _
  refine h v' w' ?_ ((Below.refl _ _).grown hg hbase (fun q hq => (hown.lt q hq).1))
  have e : bc L ++ Lib.strCells ⟨l.toArray⟩ = bc (L ++ l) := by simp [bc, Lib.byteCells, Lib.strCells]
  rw [e, es] at ho'
  unfold Own8
  rw [List.length_append]
  exact ho'
theorem wp_byte {P : Program} (w : World) {ops : Array Oper} {rest : List Oper} {o : Oper} {a : Act} {Q : Exit → Act → World → Prop} (hgd : o.guard = none) (sl x : Operand) (t : TypeId)
    (ho : o.op = .call { callee := .builtin .append, args := #[sl, x], argTypes := #[t, t] })
    (B : Nat) (i : TypeInfo) (ht : P.underlying t = some (.slice 5)) (hi : P.info? 5 = some i) (hz : i.zero = some (.int .u8 0)) (hsize : i.size = 1) (hby : i.bytes = 1)
    (v : Value) (L : List UInt8) (hs : a.eval sl = v) (hown : Own8 w B v L) (c : UInt8) (hx : a.eval x = .slice (some ⟨w.heap.size, 0, none⟩) 1 1)
    (hb : L.length + 1 ≤ 140737488355328) (hbase : B ≤ w.heap.size)
    (h : ∀ v' w', Own8 w' B v' (L ++ [c]) → Below B w w' → (∀ p : Addr, p.block < w.heap.size → some p.block ≠ v.ownBlock → w'.cell? p = w.cell? p) → wpList P ops Q rest (a.put o.dst v') w') : wpList P ops Q (o :: rest) a (w.alloc (.cells #[.int .u8 (c.toNat : Int)] 5)) := by
  refine wpList_append_own _ hgd sl x t ho B 5 i (.int .u8 0) 1 1 ht hi hz hsize hby rfl (by decide) v L.length (bc L) hs (World.ownsRow.alloc hown _) ⟨w.heap.size, 0, none⟩ 1 1 [.int .u8 (c.toNat : Int)] hx rfl ?_ (by intro q hq; simp at hq; subst hq; rfl) (by unfold maxLen; omega) (by omega) (by simp; omega) ?_
  · intro j u' hj
    match j, hj with
    | 0, hj => simp at hj; subst hj; simp [Addr.add]
    | (j + 1), hj => simp at hj
  · intro v' w' ho' hg _
    refine h v' w' ?_ (((Below.refl _ _).alloc hbase _).grown hg (by simp; omega) (fun q hq => (hown.lt q hq).1)) (fun p hp hne => (hg.cell_far p (by simp; omega) hne).trans (World.cell?_alloc_lt _ _ p hp))
    have e : bc L ++ [.int .u8 (c.toNat : Int)] = bc (L ++ [c]) := by simp [bc, Lib.byteCells]
    rw [e] at ho'
    unfold Own8
    rw [List.length_append]
    exact ho'
theorem own8_below {w w' : World} {B : Nat} {v : Value} {L : List UInt8} (h : Own8 w B v L) (hb : Below w.heap.size w w') : Own8 w' B v L := by
  obtain ⟨h1, h2⟩ := h
  refine ⟨h1, ?_⟩
  rcases h2 with h2 | ⟨g, cap, cur, hv, hg, hh, r⟩
  · exact .inl h2
  · have hl : g < w.heap.size := by rcases Nat.lt_or_ge g w.heap.size with h | h; exact h; rw [Array.getElem?_eq_none h] at hh; cases hh
    exact .inr ⟨g, cap, cur, hv, hg, (hb.block g hl).trans hh, r⟩
theorem beg_guard {s : ByteArray} (h : 0 < s.size) : guardN s.data.toList = beg s := by
  unfold beg
  rw [show (s.size != 0) = true from by rw [bne_iff_ne]; omega]
  rfl
theorem take_esc (s : ByteArray) (k : Nat) (h : k < s.size) : (s.data.toList.take (k + 1)).flatMap escB = (s.data.toList.take k).flatMap escB ++ escB (s[k]'h) := by
  rw [List.take_add_one, str_get s k h]
  simp
theorem esc_len : ∀ l : List UInt8, (l.flatMap escB).length ≤ 2 * l.length
  | [] => by simp
  | c :: l => by
    have ih := esc_len l
    obtain ⟨_, ⟨e, _, _, rfl⟩ | ⟨_, e⟩ | ⟨_, e⟩⟩ := esc_cons c <;> rw [List.flatMap_cons, e] <;> simp only [List.length_append, List.length_cons, List.length_nil] <;> omega
set_option maxHeartbeats 1000000 in
set_option maxRecDepth 6000 in
theorem appName (s : ByteArray) (v : Value) (L : List UInt8) (B : Nat) (w : World) (ho : Own8 w B v L) (hB : B ≤ w.heap.size) (hs : L.length + 2 * s.size + 4 ≤ 140737488355328) :
    Calls Tryd.prog 10 #[v, .string s] w fun e w' => ∃ v', e = .returned v' ∧ Own8 w' B v' (L ++ encN s.data.toList) ∧ Below B w w' := by
  obtain ⟨i0, hi, hz0, hz1, hz2⟩ := info_parts info8
  by_cases h0 : 0 < s.size
  · obtain ⟨he, r, hr⟩ := str_ne h0
    have hne : ¬ s.toList = [] := by intro e; rw [e] at he; cases he
    have hg := hide (beg_guard h0)
    clear hr r
    cases hb : beg s
    · have hb := hide hb
      go_enter Tryd.func10, Tryd.ntmps10
      go_wp2_with fail
      refine (begins_any s _).mono ?_
      rintro e w1 ⟨rfl, b1⟩
      have o1 := own8_below ho b1
      have B1 := b1.mono hB
      rw [unhide hb]
      go_wp2_with fail
      go_loopw [16, 0] (fun vk vo wr => ∃ k : Nat, k ≤ s.size ∧ vk = .int .i64 k ∧ Own8 wr B vo (L ++ (s.data.toList.take k).flatMap escB) ∧ Below B w wr) (fun vk _ _ => s.size - (intOf vk).toNat)
      case atStart => exact ⟨0, Nat.zero_le _, rfl, by simpa using o1, B1⟩
      case round =>
        obtain ⟨k, hk, rfl, ok, hbk⟩ := hrel
        by_cases hlt : k < s.size
        · have ki : (k : Int) < (s.size : Int) := by omega
          have hn := hide (take_esc s k hlt)
          have hln := hide (esc_len (s.data.toList.take k))
          have hlk := hide (show (s.data.toList.take k).length ≤ k by rw [List.length_take]; omega)
          have hlb := hide (show (L ++ (s.data.toList.take k).flatMap escB).length + 2 ≤ 140737488355328 by have := unhide hln; have := unhide hlk; simp only [List.length_append] at *; omega)
          have hbs : B ≤ wr.heap.size := Nat.le_trans hB hbk.size
          by_cases c1 : ((s[k]'hlt).toNat : Int) = 126
          · have ce := hide (show escB (s[k]'hlt) = [126, 48] by have e : s[k]'hlt = 126 := UInt8.toNat_inj.1 (by simpa using (by omega : (s[k]'hlt).toNat = 126)); rw [e]; decide)
            go_wp2_with (at_builtin; refine wp_str _ rfl _ _ 30 9 rfl B i0 Tryd.underlying30 Tryd.underlying9 hi hz0 hz1 hz2 _ _ rfl ok [126, 48] rfl (by have := unhide hlb; simpa using this) hbs ?_; intro v2 w2 o2 b2)
            go_roundw
            case rel => exact ⟨k + 1, by omega, by go_num, by rw [unhide hn, unhide ce, ← List.append_assoc]; exact o2, hbk.trans b2⟩
            case measure => simp [intOf]; omega
          · by_cases c2 : ((s[k]'hlt).toNat : Int) = 47
            · have ce := hide (show escB (s[k]'hlt) = [126, 49] by have e : s[k]'hlt = 47 := UInt8.toNat_inj.1 (by simpa using (by omega : (s[k]'hlt).toNat = 47)); rw [e]; decide)
              go_wp2_with (at_builtin; refine wp_str _ rfl _ _ 30 9 rfl B i0 Tryd.underlying30 Tryd.underlying9 hi hz0 hz1 hz2 _ _ rfl ok [126, 49] rfl (by have := unhide hlb; simpa using this) hbs ?_; intro v2 w2 o2 b2)
              go_roundw
              case rel => exact ⟨k + 1, by omega, by go_num, by rw [unhide hn, unhide ce, ← List.append_assoc]; exact o2, hbk.trans b2⟩
              case measure => simp [intOf]; omega
            · have ce := hide (show escB (s[k]'hlt) = [s[k]'hlt] by unfold escB; rw [if_neg (fun e => c1 (by rw [e]; rfl)), if_neg (fun e => c2 (by rw [e]; rfl))])
              go_wp2_with (at_builtin; refine wp_byte wr rfl _ _ 30 rfl B i0 Tryd.underlying30 hi hz0 hz1 hz2 _ _ (by rfl) ok (s[k]'hlt) (by rfl) (by have := unhide hlb; omega) hbs ?_; intro v2 w2 o2 b2 _)
              go_roundw
              case rel => exact ⟨k + 1, by omega, by go_num, by rw [unhide hn, unhide ce, ← List.append_assoc]; exact o2, hbk.trans b2⟩
              case measure => simp [intOf]; omega
        · have ki : ¬ (k : Int) < (s.size : Int) := by omega
          have hfin := hide (show L ++ encN s.data.toList = L ++ (s.data.toList.take k).flatMap escB by
            rw [List.take_of_length_le (by rw [Array.length_toList]; show s.size ≤ k; omega)]
            unfold encN
            rw [unhide hg, unhide hb]; simp)
          go_wp2
          go_ret
          exact ⟨_, rfl, by rw [unhide hfin]; exact ok, hbk⟩
    · have hb := hide hb
      go_enter Tryd.func10, Tryd.ntmps10
      go_wp2_with fail
      refine (begins_any s _).mono ?_
      rintro e w1 ⟨rfl, b1⟩
      have o0 := own8_below ho b1
      have hB1 : B ≤ w1.heap.size := Nat.le_trans hB b1.size
      rw [unhide hb]
      go_wp2_with (at_builtin; refine wp_str _ rfl _ _ 30 9 rfl B i0 Tryd.underlying30 Tryd.underlying9 hi hz0 hz1 hz2 _ _ rfl o0 [126, 50] rfl (by simp; omega) hB1 ?_; intro v1 w2 o1 b2)
      have B1 := (b1.mono hB).trans b2
      go_loopw [16, 0] (fun vk vo wr => ∃ k : Nat, k ≤ s.size ∧ vk = .int .i64 k ∧ Own8 wr B vo ((L ++ [126, 50]) ++ (s.data.toList.take k).flatMap escB) ∧ Below B w wr) (fun vk _ _ => s.size - (intOf vk).toNat)
      case atStart => exact ⟨0, Nat.zero_le _, rfl, by simpa using o1, B1⟩
      case round =>
        obtain ⟨k, hk, rfl, ok, hbk⟩ := hrel
        by_cases hlt : k < s.size
        · have ki : (k : Int) < (s.size : Int) := by omega
          have hn := hide (take_esc s k hlt)
          have hln := hide (esc_len (s.data.toList.take k))
          have hlk := hide (show (s.data.toList.take k).length ≤ k by rw [List.length_take]; omega)
          have hlb := hide (show ((L ++ [126, 50]) ++ (s.data.toList.take k).flatMap escB).length + 2 ≤ 140737488355328 by have := unhide hln; have := unhide hlk; simp only [List.length_append, List.length_cons, List.length_nil] at *; omega)
          have hbs : B ≤ wr.heap.size := Nat.le_trans hB hbk.size
          by_cases c1 : ((s[k]'hlt).toNat : Int) = 126
          · have ce := hide (show escB (s[k]'hlt) = [126, 48] by have e : s[k]'hlt = 126 := UInt8.toNat_inj.1 (by simpa using (by omega : (s[k]'hlt).toNat = 126)); rw [e]; decide)
            go_wp2_with (at_builtin; refine wp_str _ rfl _ _ 30 9 rfl B i0 Tryd.underlying30 Tryd.underlying9 hi hz0 hz1 hz2 _ _ rfl ok [126, 48] rfl (by have := unhide hlb; simpa using this) hbs ?_; intro v2 w2 o2 b2)
            go_roundw
            case rel => exact ⟨k + 1, by omega, by go_num, by rw [unhide hn, unhide ce, ← List.append_assoc]; exact o2, hbk.trans b2⟩
            case measure => simp [intOf]; omega
          · by_cases c2 : ((s[k]'hlt).toNat : Int) = 47
            · have ce := hide (show escB (s[k]'hlt) = [126, 49] by have e : s[k]'hlt = 47 := UInt8.toNat_inj.1 (by simpa using (by omega : (s[k]'hlt).toNat = 47)); rw [e]; decide)
              go_wp2_with (at_builtin; refine wp_str _ rfl _ _ 30 9 rfl B i0 Tryd.underlying30 Tryd.underlying9 hi hz0 hz1 hz2 _ _ rfl ok [126, 49] rfl (by have := unhide hlb; simpa using this) hbs ?_; intro v2 w2 o2 b2)
              go_roundw
              case rel => exact ⟨k + 1, by omega, by go_num, by rw [unhide hn, unhide ce, ← List.append_assoc]; exact o2, hbk.trans b2⟩
              case measure => simp [intOf]; omega
            · have ce := hide (show escB (s[k]'hlt) = [s[k]'hlt] by unfold escB; rw [if_neg (fun e => c1 (by rw [e]; rfl)), if_neg (fun e => c2 (by rw [e]; rfl))])
              go_wp2_with (at_builtin; refine wp_byte wr rfl _ _ 30 rfl B i0 Tryd.underlying30 hi hz0 hz1 hz2 _ _ (by rfl) ok (s[k]'hlt) (by rfl) (by have := unhide hlb; omega) hbs ?_; intro v2 w2 o2 b2 _)
              go_roundw
              case rel => exact ⟨k + 1, by omega, by go_num, by rw [unhide hn, unhide ce, ← List.append_assoc]; exact o2, hbk.trans b2⟩
              case measure => simp [intOf]; omega
        · have ki : ¬ (k : Int) < (s.size : Int) := by omega
          have hfin := hide (show L ++ encN s.data.toList = (L ++ [126, 50]) ++ (s.data.toList.take k).flatMap escB by
            rw [List.take_of_length_le (by rw [Array.length_toList]; show s.size ≤ k; omega)]
            unfold encN
            rw [unhide hg, unhide hb]; simp)
          go_wp2
          go_ret
          exact ⟨_, rfl, by rw [unhide hfin]; exact ok, hbk⟩
  · have hz : s.size = 0 := by omega
    have he : s.toList = [] := by
      rw [toList_data]
      exact List.eq_nil_of_length_eq_zero (by rw [Array.length_toList]; exact hz)
    have hd := hide (show s.data.toList = [] by rw [← toList_data]; exact he)
    go_enter Tryd.func10, Tryd.ntmps10
    go_wp2_with (at_builtin; refine wp_str _ rfl _ _ 30 9 rfl B i0 Tryd.underlying30 Tryd.underlying9 hi hz0 hz1 hz2 _ _ rfl ho [126, 50] rfl (by simp; omega) hB ?_; intro v1 w2 o1 b2)
    have B1 := b2
    go_loopw [16, 0] (fun vk vo wr => ∃ k : Nat, k ≤ s.size ∧ vk = .int .i64 k ∧ Own8 wr B vo (L ++ [126, 50]) ∧ Below B w wr) (fun vk _ _ => s.size - (intOf vk).toNat)
    case atStart => exact ⟨0, Nat.zero_le _, rfl, o1, B1⟩
    case round =>
      obtain ⟨k, hk, rfl, ok, hbk⟩ := hrel
      have hk0 : k = 0 := by omega
      subst hk0
      have hfin := hide (show L ++ encN s.data.toList = L ++ [126, 50] by
        unfold encN
        rw [unhide hd]
        simp [guardN])
      go_wp2
      go_ret
      exact ⟨_, rfl, by rw [unhide hfin]; exact ok, hbk⟩
end Go.Proofs.YtjicabpeohpbpabDoor.stp
