import Derived.Test.YtjicabpeohpbpabDoorPRd2
namespace Go.Proofs.YtjicabpeohpbpabDoor.stp
open Go.ChangeShapes Go.WideShapes Go.ChangeAt Go.RowKit
set_option linter.unusedVariables false
/-- how PathRead answers -/
def RdPost (s : ByteArray) (w : World) (e : Ending) (w' : World) : Prop :=
  ((ptx (rdQ s) = s.data.toList ∧ ∃ a c, e = .returned (.tuple #[.slice a (rdQ s).length c, .bool true]) ∧ Pth w' a (rdQ s).length (rdQ s) ∧ (rdQ s).length ≤ c ∧ (a = none → c = 0)) ∨
    (¬ ptx (rdQ s) = s.data.toList ∧ e = .returned (.tuple #[.slice none 0 0, .bool false]))) ∧ Below w.heap.size w w'
theorem split_any (s : ByteArray) (w : World) (he : Env w) (hs : s.size ≤ 8388608) : Calls Tryd.prog 11 #[.string s, .string ⟨#[47]⟩] w fun e w' =>
    e = .returned (.slice (some ⟨w.heap.size, 0, none⟩) (pcs s).length (pcs s).length) ∧ (∀ k x, (pcs s)[k]? = some x → w'.cell? ⟨w.heap.size, k, none⟩ = some (.string x)) ∧ w'.heap.size = w.heap.size + 1 ∧ Below w.heap.size w w' := by
  obtain ⟨m, hm⟩ := he.most
  refine (Tryd.strings_Split s ⟨#[47]⟩ m w (by omega) hm (by show 1 ≤ 1; omega)).mono ?_
  rintro e w' ⟨rfl, rfl⟩
  refine ⟨by rw [pcs_len], fun k x hk => ?_, by simp, (Below.refl _ _).alloc (Nat.le_refl _) _⟩
  have hk' := (List.getElem?_eq_some_iff.1 hk)
  obtain ⟨h1, h2⟩ := hk'
  rw [World.cell?_alloc_mark]
  show ((pcs s).map Value.string).toArray[k]? = some (.string x)
  simp [h1, h2]
def qk (s : ByteArray) (k : Nat) : List St := ((pcs s).tail.take k).map fun x => rdS x.data.toList
theorem qk_step {s : ByteArray} {k : Nat} {x : ByteArray} (h : (pcs s)[k + 1]? = some x) : qk s (k + 1) = qk s k ++ [rdS x.data.toList] := by
  unfold qk
  rw [List.take_add_one, List.getElem?_tail, h]
  simp
theorem qk_all (s : ByteArray) {k : Nat} (h : (pcs s).length ≤ k + 1) : qk s k = rdQ s := by
  unfold qk rdQ
  rw [List.take_of_length_le (by rw [List.length_tail]; omega)]
theorem rdQ_len (s : ByteArray) : (rdQ s).length + 1 = (pcs s).length := by
  unfold rdQ
  rw [List.length_map, List.length_tail, pcs_len]
  omega
theorem mem_sum : ∀ {l : List ByteArray} {x : ByteArray}, x ∈ l → x.size ≤ (l.map ByteArray.size).sum
  | y :: l, x, h => by
    simp only [List.map_cons, List.sum_cons]
    rcases List.mem_cons.1 h with e | e
    · subst e; omega
    · have := mem_sum e; omega
theorem piece_le {s x : ByteArray} {k : Nat} (h : (pcs s)[k]? = some x) : x.size ≤ s.size := Nat.le_trans (mem_sum (List.mem_of_getElem? h)) (pcs_sum s)
theorem eq_bytes {L : List UInt8} {s : ByteArray} (h : L = s.data.toList) : ((⟨L.toArray⟩ : ByteArray).toList == s.toList) = true := by
  rw [toList_data, toList_data, h]
  simp
theorem ne_bytes {L : List UInt8} {s : ByteArray} (h : ¬ L = s.data.toList) : ((⟨L.toArray⟩ : ByteArray).toList == s.toList) = false := by
  rw [toList_data, toList_data]
  simpa using h
set_option maxHeartbeats 1000000 in
set_option maxRecDepth 6000 in
theorem pathRead_any (s : ByteArray) (w : World) (he : Env w) (hs : s.size ≤ 8388608) : Calls Tryd.prog 5 #[.string s] w fun e w' => RdPost s w e w' := by
  obtain ⟨i0, hi, hz0, hz1, hz2⟩ := info_parts infoT
  have hpl := pcs_len s
  have hcb := countB_le s ⟨#[47]⟩
  go_enter Tryd.func5, Tryd.ntmps5
  go_wp2_with fail
  refine (split_any s w he hs).mono ?_
  rintro e w1 ⟨rfl, hcell, s1, b1⟩
  have E1 := he.below b1
  obtain ⟨n, hn⟩ : ∃ n, (pcs s).length = n + 1 := ⟨_, hpl⟩
  rw [hn]
  have hnb : n ≤ 8388609 := by omega
  have hcell := hide hcell
  have hn := hide hn
  clear hpl hcb
  rcases Nat.eq_zero_or_pos n with hz | hz
  · subst hz
    go_wp2_with fail
    go_loopw [11, 4] (fun vk vo wr => ∃ k : Nat, k ≤ 0 ∧ vk = .int .i64 k ∧ OwnP wr w1.heap.size vo (qk s k) ∧ Below w1.heap.size w1 wr) (fun vk _ _ => 0 - (intOf vk).toNat)
    case atStart => exact ⟨0, Nat.zero_le _, rfl, World.ownsRow_nil _ _ _ _, Below.refl _ _⟩
    case round =>
      obtain ⟨k, hk, rfl, ok, hbk⟩ := hrel
      obtain rfl : k = 0 := by omega
      have hqn := hide (qk_all s (show (pcs s).length ≤ 0 + 1 by rw [unhide hn]; omega))
      rw [unhide hqn] at ok
      have Er := E1.below hbk
      have hwb : Below w.heap.size w w1 := b1
      obtain ⟨a, c, rfl, hP, hcap, hnil⟩ := ownP_pth ok
      have hln := hide (rdQ_len s)
      have hle : (rdQ s).length ≤ 4611686018427387903 := by have := unhide hln; have := unhide hn; omega
      go_wp2_with fail
      refine (pathText a _ c (rdQ s) wr hP hle (rdQ_fit s) (rdQ_wt s hs) Er.tab).mono ?_
      rintro e w3 ⟨rfl, b3⟩
      have hb3 : Below w.heap.size w w3 := (b1.trans (hbk.mono (by omega))).trans (b3.mono (by have := hbk.size; omega))
      have hP3 := hP.below b3
      by_cases hE : ptx (rdQ s) = s.data.toList
      · have hE1 := eq_bytes hE
        have hE := hide hE
        go_wp2
        go_ret2
        exact ⟨.inl ⟨unhide hE, a, c, rfl, hP3, hcap, hnil⟩, hb3⟩
      · have hE1 := ne_bytes hE
        have hE3 : ¬ ptx (rdQ s) = s.toList := by rw [toList_data]; exact hE
        have hE := hide hE
        go_wp2
        all_goals first | (exfalso; rename_i hbad; rw [Bool.not_eq_false', beq_iff_eq] at hbad; exact hE3 hbad) | (go_ret2; exact ⟨.inr ⟨unhide hE, rfl⟩, hb3⟩)
  · have hne : ¬ n = 0 := by omega
    go_wp2_with fail
    go_loopw [11, 4] (fun vk vo wr => ∃ k : Nat, k ≤ n ∧ vk = .int .i64 k ∧ OwnP wr w1.heap.size vo (qk s k) ∧ Below w1.heap.size w1 wr) (fun vk _ _ => n - (intOf vk).toNat)
    case atStart => exact ⟨0, Nat.zero_le _, rfl, World.ownsRow_nil _ _ _ _, Below.refl _ _⟩
    case round =>
      obtain ⟨k, hk, rfl, ok, hbk⟩ := hrel
      by_cases hlt : k < n
      · have ki : (k : Int) < (n : Int) := by omega
        obtain ⟨x, hx⟩ : ∃ x, (pcs s)[k + 1]? = some x := ⟨(pcs s)[k + 1]'(by rw [unhide hn]; omega), by simp⟩
        have hc := (hbk.cell (p := ⟨w.heap.size, 1 + k, none⟩) (by show w.heap.size < w1.heap.size; omega)).trans (unhide hcell (1 + k) x (by rw [Nat.add_comm]; exact hx))
        have hq := hide (qk_step hx)
        have hxs := hide (piece_le hx)
        have Er := E1.below hbk
        clear hx
        go_wp2_with fail
        refine (readStep_any x wr Er (by have := unhide hxs; omega)).mono ?_
        rintro e w2 ⟨rfl, b2⟩
        have ok2 := ownP_below ok b2
        have hb2 := hbk.trans (b2.mono hbk.size)
        have hs2 := hb2.size
        have hql := hide (show (qk s k).length ≤ k by simp [qk]; omega)
        go_wp2_with (at_builtin; refine wp_step w2 rfl _ _ 22 rfl w1.heap.size i0 Tryd.underlying22 hi hz0 hz1 hz2 _ _ (by rfl) ok2 (rdS x.data.toList) w2.heap.size (by rfl) rfl (by have := unhide hql; omega) hs2 ?_; intro v3 w3 o3 b3)
        go_roundw
        case rel => exact ⟨k + 1, by omega, by go_num, by rw [unhide hq]; exact o3, hb2.trans b3⟩
        case measure => simp [intOf]; omega
      · have ki : ¬ (k : Int) < (n : Int) := by omega
        have hqn := hide (qk_all s (show (pcs s).length ≤ k + 1 by rw [unhide hn]; omega))
        rw [unhide hqn] at ok
        have Er := E1.below hbk
        have hwb : Below w.heap.size w w1 := b1
        obtain ⟨a, c, rfl, hP, hcap, hnil⟩ := ownP_pth ok
        have hln := hide (rdQ_len s)
        have hle : (rdQ s).length ≤ 4611686018427387903 := by have := unhide hln; have := unhide hn; omega
        go_wp2_with fail
        refine (pathText a _ c (rdQ s) wr hP hle (rdQ_fit s) (rdQ_wt s hs) Er.tab).mono ?_
        rintro e w3 ⟨rfl, b3⟩
        have hb3 : Below w.heap.size w w3 := (b1.trans (hbk.mono (by omega))).trans (b3.mono (by have := hbk.size; omega))
        have hP3 := hP.below b3
        by_cases hE : ptx (rdQ s) = s.data.toList
        · have hE1 := eq_bytes hE
          have hE := hide hE
          go_wp2
          go_ret2
          exact ⟨.inl ⟨unhide hE, a, c, rfl, hP3, hcap, hnil⟩, hb3⟩
        · have hE1 := ne_bytes hE
          have hE3 : ¬ ptx (rdQ s) = s.toList := by rw [toList_data]; exact hE
          have hE := hide hE
          go_wp2
          all_goals first | (exfalso; rename_i hbad; rw [Bool.not_eq_false', beq_iff_eq] at hbad; exact hE3 hbad) | (go_ret2; exact ⟨.inr ⟨unhide hE, rfl⟩, hb3⟩)
end Go.Proofs.YtjicabpeohpbpabDoor.stp
