import Derived.Test.YtjicabpeohpbpabDoorPTx1
namespace Go.Proofs.YtjicabpeohpbpabDoor.stp
open Go.ChangeShapes Go.WideShapes Go.ChangeAt Go.RowKit
set_option linter.unusedVariables false
/-- what the reference makes of a name's text -/
def pnT (d : UInt8) : List UInt8 := if d = 48 then [126] else if d = 49 then [47] else []
def pn : List UInt8 → List UInt8
  | [] => []
  | [c] => [c]
  | c :: d :: r => if c = 126 then pnT d ++ pn r else c :: pn (d :: r)
theorem pn_cons {c : UInt8} (h : c ≠ 126) : ∀ r, pn (c :: r) = c :: pn r
  | [] => by simp [pn]
  | d :: r => by simp [pn, h]
theorem pn_flat : ∀ l : List UInt8, pn (l.flatMap escB) = l
  | [] => rfl
  | c :: l => by
    have ih := pn_flat l
    rw [List.flatMap_cons]
    by_cases h1 : c = 126
    · subst h1
      rw [show escB 126 = [126, 48] from by decide]
      simp [pn, pnT, ih]
    · by_cases h2 : c = 47
      · subst h2
        rw [show escB 47 = [126, 49] from by decide]
        simp [pn, pnT, ih]
      · rw [show escB c = [c] by simp [escB, h1, h2]]
        show pn (c :: l.flatMap escB) = _
        rw [pn_cons h1, ih]
theorem pn_enc (l : List UInt8) : pn (encN l) = l := by
  unfold encN
  split
  · show pn (126 :: 50 :: l.flatMap escB) = l
    simp [pn, pnT, pn_flat]
  · exact pn_flat l
theorem pn_len : ∀ (n : Nat) (l : List UInt8), l.length ≤ n → (pn l).length ≤ l.length
  | 0, [], _ => by simp [pn]
  | _ + 1, [], _ => by simp [pn]
  | _ + 1, [c], _ => by simp [pn]
  | n + 1, c :: d :: r, h => by
    have h1 := pn_len n r (by simp at h; omega)
    have h2 := pn_len n (d :: r) (by simp at h ⊢; omega)
    unfold pn
    split
    · have : (pnT d).length ≤ 1 := by unfold pnT; split; simp; split <;> simp
      simp only [List.length_append, List.length_cons] at *
      omega
    · simp only [List.length_cons] at *
      omega
/-- the number that the reference guesses, wrapped as Go wraps it -/
def gstep (n : Int) (c : UInt8) : Int := if c = 45 then n else IntKind.i64.wrap (IntKind.i64.wrap (IntKind.i64.wrap (n * 10) + (c.toNat : Int)) - 48)
def gsum (l : List UInt8) : Int := l.foldl gstep 0
theorem w64 (n : Int) : IntKind.i64.wrap n = (n + 9223372036854775808) % 18446744073709551616 - 9223372036854775808 := by
  simp [IntKind.wrap, IntKind.bits, IntKind.signed]
  split <;> omega
theorem gstep_dig (a : Int) (d : Nat) (h : d < 10) : gstep (IntKind.i64.wrap a) (UInt8.ofNat (48 + d)) = IntKind.i64.wrap (a * 10 + d) := by
  have e : (UInt8.ofNat (48 + d)).toNat = 48 + d := by simp; omega
  have hne : ¬ UInt8.ofNat (48 + d) = 45 := by intro h; rw [h] at e; simp at e; omega
  unfold gstep
  rw [if_neg hne, e]
  simp only [w64]
  push_cast
  omega
theorem gsum_dec (u : Nat) : gsum (Lib.decDigits u) = IntKind.i64.wrap u := by
  induction u using Nat.strongRecOn with
  | _ u ih =>
    by_cases h : u < 10
    · unfold Lib.decDigits
      rw [dif_pos h]
      show gstep 0 (UInt8.ofNat (48 + u)) = _
      have := gstep_dig 0 u h
      rw [show IntKind.i64.wrap 0 = 0 by decide] at this
      rw [this]
      simp
    · rw [dec_step h]
      have := ih (u / 10) (by omega)
      unfold gsum at *
      rw [List.foldl_append, this]
      show gstep _ (UInt8.ofNat (48 + u % 10)) = _
      rw [gstep_dig _ (u % 10) (by omega)]
      congr 1
      push_cast
      omega
def gN (l : List UInt8) : Int := match l with | 45 :: _ => IntKind.i64.wrap (- gsum l) | _ => gsum l
theorem gN_itoa (n : Int) (h0 : -9223372036854775808 ≤ n) (h1 : n ≤ 9223372036854775807) : gN (Lib.itoa n) = n := by
  unfold Lib.itoa
  split
  · rename_i h
    show IntKind.i64.wrap (- gsum (45 :: Lib.decDigits n.natAbs)) = n
    have e : gsum (45 :: Lib.decDigits n.natAbs) = gsum (Lib.decDigits n.natAbs) := by
      unfold gsum
      rw [List.foldl_cons]
      rfl
    rw [e, gsum_dec]
    simp only [w64]
    omega
  · rename_i h
    obtain ⟨c, r, hr, h48, h57⟩ := dec_head n.toNat
    have hc : ¬ c = 45 := by intro e; rw [e] at h48; simp at h48
    have e : gN (Lib.decDigits n.toNat) = gsum (Lib.decDigits n.toNat) := by
      rw [hr]
      unfold gN
      split
      · rename_i h; simp at h; exact absurd h.1 hc
      · rfl
    rw [e, gsum_dec]
    simp only [w64]
    omega
/-- the step that the reference guesses -/
def gs (l : List UInt8) : St := if begL l = true then ⟨⟨#[]⟩, gN l, true⟩ else ⟨⟨(pn l).toArray⟩, 0, false⟩
theorem gs_enc (s : St) (h0 : -9223372036854775808 ≤ s.ix) (h1 : s.ix ≤ 9223372036854775807) : gs (encS s) = plS s := by
  unfold gs plS encS
  cases hi : s.it
  · simp only [Bool.false_eq_true, if_false]
    obtain ⟨c, r, hr, hc⟩ := encN_head s.nm.data.toList
    have : begL (encN s.nm.data.toList) = false := by rw [hr]; exact hc
    rw [this, pn_enc]
    simp
  · simp only [if_true]
    obtain ⟨c, r, hr, hc⟩ := itoa_head s.ix
    have : begL (Lib.itoa s.ix) = true := by rw [hr]; exact hc
    rw [this, gN_itoa _ h0 h1]
    simp
set_option maxHeartbeats 1000000 in
set_option maxRecDepth 6000 in
theorem plainName_any (s : ByteArray) (w : World) (hs : s.size ≤ 500000000) : Calls Tryd.prog 21 #[.string s] w fun e w' => e = .returned (.string ⟨(pn s.data.toList).toArray⟩) ∧ Below w.heap.size w w' := by
  go_enter Tryd.func21, Tryd.ntmps21
  go_wp2_with fail
  go_loopw [4, 3] (fun vk vo wr => ∃ (k : Nat) (L : List UInt8), k ≤ s.size ∧ vk = .int .i64 k ∧ vo = .string ⟨L.toArray⟩ ∧ Hid (L ++ pn (s.data.toList.drop k) = pn s.data.toList) ∧ L.length ≤ k ∧ Below w.heap.size w wr) (fun vk _ _ => s.size - (intOf vk).toNat)
  case atStart => exact ⟨0, [], Nat.zero_le _, rfl, rfl, rfl, Nat.le_refl _, Below.refl _ _⟩
  case round =>
    obtain ⟨k, L, hk, rfl, rfl, hL, hLk, hbk⟩ := hrel
    by_cases hlt : k < s.size
    · have ki : (k : Int) < (s.size : Int) := by omega
      have hdk := hide (show s.data.toList.drop k = (s[k]'hlt) :: s.data.toList.drop (k + 1) by rw [List.drop_eq_getElem_cons (show k < s.data.toList.length by rw [Array.length_toList]; exact hlt)]; rfl)
      have hcut := run_cut1 s k hlt
      have hj := fun w => run_add L ⟨#[s[k]'hlt]⟩ w (by show _ + 1 ≤ _; omega)
      by_cases c1 : ((s[k]'hlt).toNat : Int) = 126
      · by_cases hl2 : k + 1 < s.size
        · have k2 : ((k : Int) + 1) < (s.size : Int) := by omega
          have hdk2 := hide (show s.data.toList.drop (k + 1) = (s[k + 1]'hl2) :: s.data.toList.drop (k + 2) by rw [List.drop_eq_getElem_cons (show k + 1 < s.data.toList.length by rw [Array.length_toList]; exact hl2)]; rfl)
          clear hcut hj
          have hpn := hide (show pn (s.data.toList.drop k) = pnT (s[k + 1]'hl2) ++ pn (s.data.toList.drop (k + 2)) by
            rw [unhide hdk, unhide hdk2, show s[k]'hlt = 126 from UInt8.toNat_inj.1 (by simpa using (by omega : (s[k]'hlt).toNat = 126))]
            simp [pn])
          by_cases d1 : ((s[k + 1]'hl2).toNat : Int) = 48
          · have ce := hide (show pnT (s[k + 1]'hl2) = [126] by have e : s[k + 1]'hl2 = 48 := UInt8.toNat_inj.1 (by simpa using (by omega : (s[k + 1]'hl2).toNat = 48)); rw [e]; decide)
            have hj := fun w => run_add L ⟨#[126]⟩ w (by show _ + 1 ≤ _; omega)
            go_wp2
            go_roundw
            case rel => exact ⟨k + 2, L ++ [126], by omega, by go_num, rfl, (by have h := unhide hL; rw [unhide hpn, unhide ce] at h; show _ = _; rw [← h, List.append_assoc]), by simp; omega, hbk⟩
            case measure => simp [intOf]; omega
          · by_cases d2 : ((s[k + 1]'hl2).toNat : Int) = 49
            · have ce := hide (show pnT (s[k + 1]'hl2) = [47] by have e : s[k + 1]'hl2 = 49 := UInt8.toNat_inj.1 (by simpa using (by omega : (s[k + 1]'hl2).toNat = 49)); rw [e]; decide)
              have hj := fun w => run_add L ⟨#[47]⟩ w (by show _ + 1 ≤ _; omega)
              go_wp2
              go_roundw
              case rel => exact ⟨k + 2, L ++ [47], by omega, by go_num, rfl, (by have h := unhide hL; rw [unhide hpn, unhide ce] at h; show _ = _; rw [← h, List.append_assoc]), by simp; omega, hbk⟩
              case measure => simp [intOf]; omega
            · have ce := hide (show pnT (s[k + 1]'hl2) = [] by unfold pnT; rw [if_neg (fun e => d1 (by rw [e]; rfl)), if_neg (fun e => d2 (by rw [e]; rfl))])
              go_wp2
              go_roundw
              case rel => exact ⟨k + 2, L, by omega, by go_num, rfl, (by have h := unhide hL; rw [unhide hpn, unhide ce] at h; exact h), by omega, hbk⟩
              case measure => simp [intOf]; omega
        · have k2 : ¬ ((k : Int) + 1) < (s.size : Int) := by omega
          have hpn := hide (show pn (s.data.toList.drop k) = (s[k]'hlt) :: pn (s.data.toList.drop (k + 1)) by
            rw [unhide hdk, List.drop_of_length_le (show s.data.toList.length ≤ k + 1 by rw [Array.length_toList]; show s.size ≤ k + 1; omega)]
            rfl)
          go_wp2
          go_roundw
          case rel => exact ⟨k + 1, L ++ [s[k]'hlt], by omega, by go_num, rfl, (by have h := unhide hL; rw [unhide hpn] at h; show _ = _; rw [← h]; simp), by simp; omega, hbk⟩
          case measure => simp [intOf]; omega
      · have hpn := hide (show pn (s.data.toList.drop k) = (s[k]'hlt) :: pn (s.data.toList.drop (k + 1)) by
          rw [unhide hdk]
          exact pn_cons (fun e => c1 (by rw [e]; rfl)) _)
        go_wp2
        go_roundw
        case rel => exact ⟨k + 1, L ++ [s[k]'hlt], by omega, by go_num, rfl, (by have h := unhide hL; rw [unhide hpn] at h; show _ = _; rw [← h]; simp), by simp; omega, hbk⟩
        case measure => simp [intOf]; omega
    · have ki : ¬ (k : Int) < (s.size : Int) := by omega
      have hfin := hide (show pn s.data.toList = L by have := unhide hL; rw [List.drop_of_length_le (by rw [Array.length_toList]; show s.size ≤ k; omega)] at this; rw [← this]; simp [pn])
      go_wp2
      go_ret
      exact ⟨by rw [unhide hfin]; rfl, hbk⟩
end Go.Proofs.YtjicabpeohpbpabDoor.stp
