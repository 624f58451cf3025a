import Derived.Test.YtjicabpeohpbpabDoorPBk
import Derived.Lib.ItoaLen
import Derived.Lib.Strings
import Derived.Laws.Strings2
namespace Go.Proofs.YtjicabpeohpbpabDoor.stp
open Go.ChangeShapes Go.WideShapes Go.ChangeAt Go.RowKit
set_option linter.unusedVariables false
theorem run_add (L : List UInt8) (b : ByteArray) (w : World) (h : L.length + b.size ≤ 2000000000) : (Op.stringOp .add ⟨L.toArray⟩ b).run Tryd.prog w = .ok (.string ⟨(L ++ b.data.toList).toArray⟩) w := by
  have e1 : (⟨L.toArray⟩ : ByteArray).size = L.length := rfl
  rw [run_string_add_sum w _ _ (by rw [e1]; omega)]
  have e : (⟨L.toArray⟩ : ByteArray) ++ b = ⟨(L ++ b.data.toList).toArray⟩ := by
    apply bytes_ext
    rw [toList_data, toList_data]
    show ((⟨L.toArray⟩ : ByteArray) ++ b).data.toList = _
    rw [ByteArray.data_append]
    simp
  rw [e]
theorem guarded_any (s : ByteArray) (w : World) : Calls Tryd.prog 23 #[.string s] w fun e w' => e = .returned (.bool (guardN s.data.toList)) ∧ Below w.heap.size w w' := by
  by_cases h0 : 0 < s.size
  · obtain ⟨he, r, hr⟩ := str_ne h0
    have hne : ¬ s.toList = [] := by intro e; rw [e] at he; cases he
    have hb : Hid (guardN s.data.toList = numB (s[0]'h0)) := by
      show guardN s.data.toList = numB (s[0]'h0)
      rw [hr]
      rfl
    clear hr
    by_cases c1 : ((s[0]'h0).toNat : Int) = 45
    · have hn : Hid (numB (s[0]'h0) = true) := by
        show numB (s[0]'h0) = true
        have : s[0]'h0 = 45 := by apply UInt8.toNat_inj.1; simpa using (by omega : (s[0]'h0).toNat = 45)
        rw [this]
        decide
      go_enter Tryd.func23, Tryd.ntmps23
      go_wp2
      go_ret
      exact ⟨by rw [unhide hb, unhide hn]; simp, Below.refl _ _⟩
    · have c1b : Hid ((s[0]'h0 == 45) = false) := by
        show (s[0]'h0 == 45) = false
        simp
        intro e
        rw [e] at c1
        exact c1 rfl
      by_cases c2 : 48 ≤ ((s[0]'h0).toNat : Int)
      · by_cases c3 : ((s[0]'h0).toNat : Int) ≤ 57
        · have hn : Hid (numB (s[0]'h0) = true) := by
            show numB (s[0]'h0) = true
            unfold numB
            rw [unhide c1b]
            simp
            omega
          go_enter Tryd.func23, Tryd.ntmps23
          go_wp2
          go_ret
          exact ⟨by rw [unhide hb, unhide hn]; simp, Below.refl _ _⟩
        · have hn : Hid (numB (s[0]'h0) = false) := by
            show numB (s[0]'h0) = false
            unfold numB
            rw [unhide c1b]
            simp
            omega
          go_enter Tryd.func23, Tryd.ntmps23
          go_wp2
          go_ret
          exact ⟨by rw [unhide hb, unhide hn]; simp [c1], Below.refl _ _⟩
      · have hn : Hid (numB (s[0]'h0) = false) := by
          show numB (s[0]'h0) = false
          unfold numB
          rw [unhide c1b]
          simp
          omega
        go_enter Tryd.func23, Tryd.ntmps23
        go_wp2
        go_ret
        exact ⟨by rw [unhide hb, unhide hn]; simp [c1], Below.refl _ _⟩
  · have hz : s.size = 0 := by omega
    have hb : Hid (guardN s.data.toList = true) := by
      show guardN s.data.toList = true
      rw [List.eq_nil_of_length_eq_zero (show s.data.toList.length = 0 by rw [Array.length_toList]; exact hz)]
      rfl
    have he : s.toList = [] := by
      rw [toList_data]
      exact List.eq_nil_of_length_eq_zero (by rw [Array.length_toList]; exact hz)
    go_enter Tryd.func23, Tryd.ntmps23
    go_wp2
    go_ret
    exact ⟨by rw [unhide hb]; rfl, Below.refl _ _⟩
def pre2N (s : ByteArray) : List UInt8 := if guardN s.data.toList = true then [126, 50] else []
theorem take_escN (s : ByteArray) (k : Nat) (h : k < s.size) : (s.data.toList.take (k + 1)).flatMap escB = (s.data.toList.take k).flatMap escB ++ escB (s[k]'h) := by
  rw [List.take_add_one, str_get s k h]
  simp
theorem run_cut (s : ByteArray) (a b : Nat) (h1 : a ≤ b) (h2 : b ≤ s.size) (w : World) : (Instr.slice 9 (.string s) (some (.int .i64 (a : Int))) (some (.int .i64 (b : Int))) none).run Tryd.prog w = .ok (.string ⟨((s.data.toList.drop a).take (b - a)).toArray⟩) w := by
  rw [run_slice_string w 9 s .i64 .i64 a b Tryd.underlying9 (by omega) (by omega) (by omega)]
  congr 2
  apply bytes_ext
  rw [Int.toNat_natCast, Int.toNat_natCast, Lib.extract_toList, toList_data]
theorem run_cut1 (s : ByteArray) (k : Nat) (h : k < s.size) (w : World) : (Instr.slice 9 (.string s) (some (.int .i64 (k : Int))) (some (.int .i64 ((k : Int) + 1))) none).run Tryd.prog w = .ok (.string ⟨#[s[k]'h]⟩) w := by
  have e := run_cut s k (k + 1) (by omega) (by omega) w
  have e2 : (s.data.toList.drop k).take (k + 1 - k) = [s[k]'h] := by
    have hk : k < s.data.toList.length := by rw [Array.length_toList]; exact h
    rw [Nat.add_sub_cancel_left, List.drop_eq_getElem_cons hk]
    simp
    rfl
  rw [e2] at e
  exact e
set_option maxHeartbeats 1000000 in
set_option maxRecDepth 6000 in
theorem stepText_any (s : St) (w : World) (hs : s.nm.size ≤ 500000000) (hw : (Lit.int .i64 s.ix).wf = true) (htab : Lib.TabBelow Tryd.prog w.heap.size w "internal/strconv.uint64pow10" .u64 Lib.pow10Tab) :
    Calls Tryd.prog 14 #[.agg #[.string s.nm, .int .i64 s.ix, .bool s.it]] w fun e w' => e = .returned (.string ⟨(encS s).toArray⟩) ∧ Below w.heap.size w w' := by
  obtain ⟨nm, ix, it⟩ := s
  simp only at hs hw ⊢
  cases it
  case true =>
    have hr := wf_range hw
    have he := hide (show encS ⟨nm, ix, true⟩ = Lib.itoa ix by simp [encS])
    go_enter Tryd.func14, Tryd.ntmps14
    go_wp2_with fail
    have b0 : Below w.heap.size w (w.alloc (.cells #[.string nm, .int .i64 ix, .bool true] 25)) := (Below.refl _ _).alloc (Nat.le_refl _) _
    refine (Tryd.strconv_Itoa ix hr.1 hr.2 _ (htab _ b0)).mono ?_
    rintro e w1 ⟨rfl, k, os, rfl⟩
    go_wp2
    go_ret
    exact ⟨by rw [unhide he]; rfl, b0.trans (Lib.below_grow _ _ b0.size _ _)⟩
  case false =>
    have he := hide (show encS ⟨nm, ix, false⟩ = encN nm.data.toList by simp [encS])
    go_enter Tryd.func14, Tryd.ntmps14
    go_wp2_with fail
    have b0 : Below w.heap.size w (w.alloc (.cells #[.string nm, .int .i64 ix, .bool false] 25)) := (Below.refl _ _).alloc (Nat.le_refl _) _
    have x0 : (w.alloc (.cells #[.string nm, .int .i64 ix, .bool false] 25)).cell? ⟨w.heap.size, 0, none⟩ = some (.string nm) := by simp
    have hsz : w.heap.size < (w.alloc (.cells #[.string nm, .int .i64 ix, .bool false] 25)).heap.size := by simp
    generalize (w.alloc (.cells #[.string nm, .int .i64 ix, .bool false] 25)) = W at *
    refine (guarded_any nm _).mono ?_
    rintro e w1 ⟨rfl, b1⟩
    have hP := hide (show encN nm.data.toList = pre2N nm ++ nm.data.toList.flatMap escB from rfl)
    have hpl := hide (show (pre2N nm).length ≤ 2 by unfold pre2N; split <;> simp)
    have hgo : ∀ g : Bool, guardN nm.data.toList = g → Hid (pre2N nm = if g = true then [126, 50] else []) := fun g h => by unfold Hid pre2N; rw [h]
    cases hg : guardN nm.data.toList
    · have hp := hgo _ hg
      have hg := hide hg
      clear hgo
      go_wp2_with fail
      go_loopw [4, 3] (fun vk vo wr => ∃ k : Nat, k ≤ nm.size ∧ vk = .int .i64 k ∧ vo = .string ⟨(pre2N nm ++ (nm.data.toList.take k).flatMap escB).toArray⟩ ∧ Below W.heap.size W wr) (fun vk _ _ => nm.size - (intOf vk).toNat)
      case atStart => exact ⟨0, Nat.zero_le _, rfl, by rw [unhide hp]; rfl, b1⟩
      case round =>
        obtain ⟨k, hk, rfl, rfl, hbk⟩ := hrel
        have u0 := (hbk.cell (p := ⟨w.heap.size, 0, none⟩) hsz).trans x0
        by_cases hlt : k < nm.size
        · have ki : (k : Int) < (nm.size : Int) := by omega
          have hn := hide (take_escN nm k hlt)
          have hln := hide (esc_len (nm.data.toList.take k))
          have hlk := hide (show (nm.data.toList.take k).length ≤ k by rw [List.length_take]; omega)
          have hlb := hide (show (pre2N nm ++ (nm.data.toList.take k).flatMap escB).length + 2 ≤ 2000000000 by have := unhide hln; have := unhide hlk; have := unhide hpl; simp only [List.length_append] at *; omega)
          by_cases c1 : ((nm[k]'hlt).toNat : Int) = 126
          · have ce := hide (show escB (nm[k]'hlt) = [126, 48] by have e : nm[k]'hlt = 126 := UInt8.toNat_inj.1 (by simpa using (by omega : (nm[k]'hlt).toNat = 126)); rw [e]; decide)
            have hj := fun w => run_add (pre2N nm ++ (nm.data.toList.take k).flatMap escB) ⟨#[126, 48]⟩ w (unhide hlb)
            go_wp2
            go_roundw
            case rel => exact ⟨k + 1, by omega, by go_num, by rw [unhide hn, unhide ce, ← List.append_assoc], hbk⟩
            case measure => simp [intOf]; omega
          · by_cases c2 : ((nm[k]'hlt).toNat : Int) = 47
            · have ce := hide (show escB (nm[k]'hlt) = [126, 49] by have e : nm[k]'hlt = 47 := UInt8.toNat_inj.1 (by simpa using (by omega : (nm[k]'hlt).toNat = 47)); rw [e]; decide)
              have hj := fun w => run_add (pre2N nm ++ (nm.data.toList.take k).flatMap escB) ⟨#[126, 49]⟩ w (unhide hlb)
              go_wp2
              go_roundw
              case rel => exact ⟨k + 1, by omega, by go_num, by rw [unhide hn, unhide ce, ← List.append_assoc], hbk⟩
              case measure => simp [intOf]; omega
            · have ce := hide (show escB (nm[k]'hlt) = [nm[k]'hlt] by unfold escB; rw [if_neg (fun e => c1 (by rw [e]; rfl)), if_neg (fun e => c2 (by rw [e]; rfl))])
              have hcut := run_cut1 nm k hlt
              have hj := fun w => run_add (pre2N nm ++ (nm.data.toList.take k).flatMap escB) ⟨#[nm[k]'hlt]⟩ w (by have := unhide hlb; show _ + 1 ≤ _; omega)
              go_wp2
              go_roundw
              case rel => exact ⟨k + 1, by omega, by go_num, by rw [unhide hn, unhide ce, ← List.append_assoc], hbk⟩
              case measure => simp [intOf]; omega
        · have ki : ¬ (k : Int) < (nm.size : Int) := by omega
          have hfin := hide (show encS ⟨nm, ix, false⟩ = pre2N nm ++ (nm.data.toList.take k).flatMap escB by
            rw [unhide he, unhide hP, List.take_of_length_le (by rw [Array.length_toList]; show nm.size ≤ k; omega)])
          go_wp2
          go_ret
          exact ⟨by rw [unhide hfin]; rfl, b0.trans (hbk.mono b0.size)⟩
    · have hp := hgo _ hg
      have hg := hide hg
      clear hgo
      go_wp2_with fail
      go_loopw [4, 3] (fun vk vo wr => ∃ k : Nat, k ≤ nm.size ∧ vk = .int .i64 k ∧ vo = .string ⟨(pre2N nm ++ (nm.data.toList.take k).flatMap escB).toArray⟩ ∧ Below W.heap.size W wr) (fun vk _ _ => nm.size - (intOf vk).toNat)
      case atStart => exact ⟨0, Nat.zero_le _, rfl, by rw [unhide hp]; rfl, b1⟩
      case round =>
        obtain ⟨k, hk, rfl, rfl, hbk⟩ := hrel
        have u0 := (hbk.cell (p := ⟨w.heap.size, 0, none⟩) hsz).trans x0
        by_cases hlt : k < nm.size
        · have ki : (k : Int) < (nm.size : Int) := by omega
          have hn := hide (take_escN nm k hlt)
          have hln := hide (esc_len (nm.data.toList.take k))
          have hlk := hide (show (nm.data.toList.take k).length ≤ k by rw [List.length_take]; omega)
          have hlb := hide (show (pre2N nm ++ (nm.data.toList.take k).flatMap escB).length + 2 ≤ 2000000000 by have := unhide hln; have := unhide hlk; have := unhide hpl; simp only [List.length_append] at *; omega)
          by_cases c1 : ((nm[k]'hlt).toNat : Int) = 126
          · have ce := hide (show escB (nm[k]'hlt) = [126, 48] by have e : nm[k]'hlt = 126 := UInt8.toNat_inj.1 (by simpa using (by omega : (nm[k]'hlt).toNat = 126)); rw [e]; decide)
            have hj := fun w => run_add (pre2N nm ++ (nm.data.toList.take k).flatMap escB) ⟨#[126, 48]⟩ w (unhide hlb)
            go_wp2
            go_roundw
            case rel => exact ⟨k + 1, by omega, by go_num, by rw [unhide hn, unhide ce, ← List.append_assoc], hbk⟩
            case measure => simp [intOf]; omega
          · by_cases c2 : ((nm[k]'hlt).toNat : Int) = 47
            · have ce := hide (show escB (nm[k]'hlt) = [126, 49] by have e : nm[k]'hlt = 47 := UInt8.toNat_inj.1 (by simpa using (by omega : (nm[k]'hlt).toNat = 47)); rw [e]; decide)
              have hj := fun w => run_add (pre2N nm ++ (nm.data.toList.take k).flatMap escB) ⟨#[126, 49]⟩ w (unhide hlb)
              go_wp2
              go_roundw
              case rel => exact ⟨k + 1, by omega, by go_num, by rw [unhide hn, unhide ce, ← List.append_assoc], hbk⟩
              case measure => simp [intOf]; omega
            · have ce := hide (show escB (nm[k]'hlt) = [nm[k]'hlt] by unfold escB; rw [if_neg (fun e => c1 (by rw [e]; rfl)), if_neg (fun e => c2 (by rw [e]; rfl))])
              have hcut := run_cut1 nm k hlt
              have hj := fun w => run_add (pre2N nm ++ (nm.data.toList.take k).flatMap escB) ⟨#[nm[k]'hlt]⟩ w (by have := unhide hlb; show _ + 1 ≤ _; omega)
              go_wp2
              go_roundw
              case rel => exact ⟨k + 1, by omega, by go_num, by rw [unhide hn, unhide ce, ← List.append_assoc], hbk⟩
              case measure => simp [intOf]; omega
        · have ki : ¬ (k : Int) < (nm.size : Int) := by omega
          have hfin := hide (show encS ⟨nm, ix, false⟩ = pre2N nm ++ (nm.data.toList.take k).flatMap escB by
            rw [unhide he, unhide hP, List.take_of_length_le (by rw [Array.length_toList]; show nm.size ≤ k; omega)])
          go_wp2
          go_ret
          exact ⟨by rw [unhide hfin]; rfl, b0.trans (hbk.mono b0.size)⟩
set_option maxHeartbeats 1000000 in
set_option maxRecDepth 6000 in
theorem refText (a : Option Addr) (n c : Nat) (ss : List St) (w : World) (hA : Pth w a n ss) (bn : n ≤ 8388608) (hf : Fit ss) (hb : wt ss ≤ 1000000000)
    (htab : Lib.TabBelow Tryd.prog w.heap.size w "internal/strconv.uint64pow10" .u64 Lib.pow10Tab) :
    Calls Tryd.prog 7 #[.slice a n c] w fun e w' => e = .returned (.string ⟨(ptx ss).toArray⟩) ∧ Below w.heap.size w w' := by
  go_enter Tryd.func7, Tryd.ntmps7
  go_wp2_with fail
  go_loopw [4, 3] (fun vk vo wr => ∃ k : Nat, k ≤ n ∧ vk = .int .i64 k ∧ vo = .string ⟨(ptx (ss.take k)).toArray⟩ ∧ Below w.heap.size w wr) (fun vk _ _ => n - (intOf vk).toNat)
  case atStart => exact ⟨0, Nat.zero_le _, rfl, rfl, Below.refl _ _⟩
  case round =>
    obtain ⟨k, hk, rfl, rfl, hbk⟩ := hrel
    by_cases hlt : k < n
    · have ki : (k : Int) < (n : Int) := by omega
      rcases (hA.below hbk).at_ with h0 | ⟨b, off, rfl, hbw, hcell⟩
      · omega
      obtain ⟨s, hs, u0, u1, u2⟩ := hcell k hlt
      have hstep := hide (ptx_step hs)
      have hroom := hide (ptx_room hf hs hb)
      have hwf := hf s (List.mem_of_getElem? hs)
      have hel := hide (encS_len s hwf)
      have hz := hide (show (⟨(encS s).toArray⟩ : ByteArray).size = (encS s).length from rfl)
      have hST := stepText_any s
      obtain ⟨nm, ix, it⟩ := s
      clear hcell hs
      simp only at u0 u1 u2 hwf hST
      have hj1 := fun w => run_add (ptx (ss.take k)) ⟨#[47]⟩ w (by have := unhide hroom; show _ + 1 ≤ _; omega)
      have hj2 := fun w => run_add (ptx (ss.take k) ++ [47]) ⟨(encS ⟨nm, ix, it⟩).toArray⟩ w (by rw [unhide hz]; have := unhide hroom; have := unhide hel; simp only [List.length_append, List.length_cons, List.length_nil] at *; omega)
      go_wp2_with fail
      refine (hST wr (by have h : _ + 2 * nm.size + 25 ≤ 1000000000 := unhide hroom; show nm.size ≤ _; omega) hwf (tab_now (htab.on hbk) hbk.size)).mono ?_
      rintro e w2 ⟨rfl, b2⟩
      go_wp2
      go_roundw
      case rel => exact ⟨k + 1, by omega, by go_num, by rw [unhide hstep], hbk.trans (b2.mono hbk.size)⟩
      case measure => simp [intOf]; omega
    · have ki : ¬ (k : Int) < (n : Int) := by omega
      have hfin := hide (show ss.take k = ss from List.take_of_length_le (by rw [hA.len]; omega))
      go_wp2
      go_ret
      exact ⟨by rw [unhide hfin]; rfl, hbk⟩
end Go.Proofs.YtjicabpeohpbpabDoor.stp
