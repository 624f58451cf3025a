import Derived.Test.YtidkdnlbecompacApa
import Derived.Test.YtidkdnlbecompacDecB
import Derived.Test.YtidkdnlbecompacDecR
import Derived.Lib.AppendStr
namespace Go.Proofs.Ytidkdnlbecompac.mem
open Go.ChangeShapes Go.WideShapes Go.ChangeAt Go.RowKit
open ints (hide unhide)
set_option linter.unusedVariables false

def tailL : List Int := [48, 49, 50, 51, 52, 53, 54, 55, 56, 57, 97, 98, 99, 100, 101, 102, 103, 104, 105, 106, 107, 108, 109, 110, 111, 112, 113, 114, 115, 116, 117, 118, 119, 120, 121, 122]
def tailC : ByteArray := ⟨#[48, 49, 50, 51, 52, 53, 54, 55, 56, 57, 97, 98, 99, 100, 101, 102, 103, 104, 105, 106, 107, 108, 109, 110, 111, 112, 113, 114, 115, 116, 117, 118, 119, 120, 121, 122]⟩
theorem tail_cells : Lib.strCells tailC = tailL.map (Value.int .u8) := by kernel_rfl
theorem tail_str : strOfNums tailL = tailC := by kernel_rfl
theorem tail_size : tailC.size = 36 := by kernel_rfl
theorem str_add (xs ys : List Int) : strOfNums xs ++ strOfNums ys = strOfNums (xs ++ ys) := by
  apply ByteArray.ext
  apply Array.ext'
  rw [ByteArray.data_append, Array.toList_append, strOfNums_data, strOfNums_data, strOfNums_data, List.map_append]
def setF (zs : List Int) (f : Nat → Int) (k : Nat) : List Int := (List.range k).map f ++ zs.drop k
theorem setF_zero (zs : List Int) (f : Nat → Int) : setF zs f 0 = zs := by simp [setF]
theorem setF_set (zs : List Int) (f : Nat → Int) (k : Nat) (h : k < zs.length) : (setF zs f k).set k (f k) = setF zs f (k + 1) := by
  unfold setF
  rw [List.set_append_right _ _ (by simp), List.length_map, List.length_range, Nat.sub_self, List.drop_eq_getElem_cons h, List.set_cons_zero, List.range_succ]
  simp
theorem setF_set2 (zs : List Int) (f : Nat → Int) (k : Nat) (y : Int) (h : k < zs.length) : ((setF zs f k).set k y).set k (f k) = setF zs f (k + 1) := by
  rw [List.set_set, setF_set zs f k h]
theorem setF_all (zs r : List Int) (f : Nat → Int) (n : Nat) (h : zs.length = n) : setF (zs ++ r) f n = (List.range n).map f ++ r := by
  unfold setF
  rw [List.drop_append_of_le_length (by omega), List.drop_eq_nil_of_le (by omega), List.nil_append]
def otherF (zs' : List Int) (n' m : Nat) : Int := if m < n' then zs'.getD m 0 else 122
theorem other_byt {zs' : List Int} {n' : Nat} (h : Byt zs') (hl : zs'.length = n') (n : Nat) : Byt ((List.range n).map (otherF zs' n')) := by
  intro z hz
  obtain ⟨m, _, rfl⟩ := List.mem_map.1 hz
  unfold otherF
  split
  · rename_i hm
    have : zs'.getD m 0 ∈ zs' := by simp [List.getD, show m < zs'.length by omega]
    exact h _ this
  · omega
theorem some_of {w : World} {base : Nat} {e : TypeId} {size n : Nat} {v : Value} {xs : List Value} (h : w.ownsRow base e size v n xs) (hn : 0 < n) : ∃ g cap, v = .slice (some ⟨g, 0, none⟩) n cap ∧ n ≤ cap := by
  rcases h.2 with ⟨_, h0⟩ | ⟨g, cap, cur, hv, _, _, hc, _⟩
  · omega
  · exact ⟨g, cap, hv, hc⟩
theorem own_lt_keep' {w w' : World} {base base' : Nat} {e : TypeId} {size g n cap : Nat} {xs : List Value} (h : w.ownsRow base e size (.slice (some ⟨g, 0, none⟩) n cap) n xs) (hb : Below base' w w') (hg : g < base') : w'.ownsRow base e size (.slice (some ⟨g, 0, none⟩) n cap) n xs := own_block_eq h (hb.block g hg)
theorem lists_pair {w : World} {base : Nat} {va vb : Value} {l : List Int} (ha : w.ownsRow base 21 1 va l.length (l.map (Value.int .i32))) {mid : Nat} (hb : w.ownsRow mid 21 1 vb l.length (l.map (Value.int .i32))) (hbm : base ≤ mid) (hlt : ∀ q, va.ownBlock = some q → q < mid) :
    Lists (w.alloc (.cells #[va, vb] 22)) base w.heap.size 0 2 (fun j => if j = 0 then va else vb) (fun _ => l) := by
  have al : Below w.heap.size w (w.alloc (.cells #[va, vb] 22)) := (Below.refl _ _).alloc (Nat.le_refl _) _
  refine ⟨fun j hj => ?_, ⟨_, _, heap_alloc_new w _⟩, fun j hj => ?_, fun j j' hj hj' hne q hq e => ?_⟩
  · have : j = 0 ∨ j = 1 := by omega
    rcases this with rfl | rfl <;> simp [go_sem]
  · by_cases h0 : j = 0
    · simp only [if_pos h0]; exact own_below ha al
    · simp only [if_neg h0]; exact own_below (own_lo hb hbm) al
  · have hge : ∀ q, vb.ownBlock = some q → mid ≤ q := fun q hq => (hb.lt q hq).1
    by_cases h0 : j = 0
    · have h1 : ¬ j' = 0 := by omega
      simp only [if_pos h0, if_neg h1] at hq e
      have := hlt q hq
      have := hge q e
      omega
    · have h1 : j' = 0 := by omega
      simp only [if_neg h0, if_pos h1] at hq e
      have := hlt q e
      have := hge q hq
      omega
set_option maxHeartbeats 4000000 in
set_option maxRecDepth 4000 in
theorem law_fresh (a : Option Addr) (n c : Nat) (zs : List Int) (a' : Option Addr) (n' c' : Nat) (zs' : List Int) (w : World) (h : Row .u8 w a n c zs) (h' : Row .u8 w a' n' c' zs') (hn : n ≤ 1048576) (hz : Byt zs) (hz' : Byt zs') :
    Calls Try.prog 4 #[.slice a n c, .slice a' n' c'] w fun e w' => e = .returned (.bool true) ∧ Below w.heap.size w w' := by
  obtain ⟨i0, hi, hz0, hz1, hz2⟩ := info_parts info8
  have hlen := hide h.len
  have hdl := decZ_len zs hz
  have hde := decZ_le zs hz
  rw [h.len] at hde
  have Hz := hide hz
  have Hz' := hide hz'
  have HB2 := hide (other_byt hz' h'.len n)
  clear hz hz'
  obtain ⟨D, hD⟩ : ∃ D, D = (decZ zs).2 := ⟨_, rfl⟩
  obtain ⟨CL, hCL⟩ : ∃ CL, CL = (decZ zs).1 := ⟨_, rfl⟩
  rw [← hD] at hdl hde
  rw [← hCL] at hdl
  have HD := hide hD
  have HCL := hide hCL
  clear hD hCL
  go_enter Try.func4, Try.ntmps4
  go_wp2_with fail
  refine (awake_true _).mono ?_
  rintro e w1 ⟨rfl, B1⟩
  go_wp2_with fail
  refine (copied_any _ _ _ _ _ (h.below B1) (by omega)).mono ?_
  rintro e w2 ⟨rfl, ho2, hb⟩
  have B2 := B1.trans (hb.mono B1.size)
  replace ho2 := own_lo ho2 B1.size
  generalize w1.heap.size = o at *
  clear B1 hb
  have B2s := B2.size
  have HT := hide tail_size
  have HO2 := hide ho2
  clear ho2
  go_wp2_with (at_builtin; refine Lib.wpList_append_own_string _ rfl (.tmp 22) _ 33 9 rfl w.heap.size 5 i0 Try.underlying33 Try.underlying9 hi hz0 hz1 hz2 _ _ _ rfl (unhide HO2) tailC rfl (by rw [unhide HT]; unfold maxLen; omega) (by rw [unhide HT]; omega) B2s ?_; intro v3 w3 hw3 hgrow3 _; rw [unhide HT, tail_cells, ← List.map_append] at hw3; obtain ⟨g3, cap3, rfl, hc3⟩ := some_of hw3 (by omega); have hc3i : (n : Int) ≤ (cap3 : Int) := by omega)
  have B3 := B2.grown hgrow3 B2s (fun k hk => ((unhide HO2).lt k hk).1)
  clear B2 hgrow3 HO2 B2s HT
  have D3 := hide (decode_bytes _ _ _ _ _ ((row_at hw3).head (unhide hlen)) (unhide Hz) (by omega))
  rw [← unhide HD, ← unhide HCL] at D3
  refine (unhide D3).mono ?_
  rintro e w4 ⟨va, rfl, ha4, hb⟩
  clear D3
  have B4 := B3.trans (hb.mono B3.size)
  have hw4 := own_below hw3 hb
  have hgl := (own_lt hw3).2
  have B3s := B3.size
  have hb34 := hb.size
  obtain ⟨aa, ca, rfl, _⟩ := own_row ha4
  obtain ⟨base, hbase⟩ : ∃ base, base = w3.heap.size := ⟨_, rfl⟩
  rw [← hbase] at ha4 hgl B3s hb34
  clear B3 hw3 hb hbase
  have D4 := hide (decode_bytes _ _ _ _ _ ((row_at hw4).head (unhide hlen)) (unhide Hz) (by omega))
  rw [← unhide HD, ← unhide HCL] at D4
  go_wp2_with fail
  refine (unhide D4).mono ?_
  rintro e w5 ⟨vb, rfl, hb5, hb⟩
  clear D4
  have B5 := B4.trans (hb.mono B4.size)
  have hw5 := own_below hw4 hb
  have ha5 := own_below ha4 hb
  have hm5 := hb.size
  have hmid := hide (show ∀ q, (Value.slice aa CL.length ca).ownBlock = some q → q < w4.heap.size from fun q hq => (ha4.lt q hq).2)
  obtain ⟨ab, cb, rfl, _⟩ := own_row hb5
  obtain ⟨mid, hm⟩ : ∃ mid, mid = w4.heap.size := ⟨_, rfl⟩
  rw [← hm] at hb5 hmid hb34 hm5
  clear B4 hw4 ha4 hb hm
  go_wp2_with fail
  refine (copied_any _ _ _ _ _ (h.below B5) (by omega)).mono ?_
  rintro e w6 ⟨rfl, hs6, hb⟩
  have B6 := B5.trans (hb.mono B5.size)
  have hw6 := own_below hw5 hb
  have hm6 := Nat.le_trans hm5 hb.size
  clear hm5
  have ha6 := own_below ha5 hb
  have hb6 := own_below hb5 hb
  clear B5 hw5 ha5 hb5 hb
  have D6 := hide (rdecode_any _ _ _ _ _ (row_at hs6) (unhide Hz) (by omega))
  rw [← unhide HD, ← unhide HCL] at D6
  clear hs6
  go_wp2_with fail
  refine (unhide D6).mono ?_
  rintro e w7 ⟨vw, rfl, hv7, hb⟩
  clear D6
  have B7 := B6.trans (hb.mono B6.size)
  have hw7 := own_below hw6 hb
  have hm7 := Nat.le_trans hm6 hb.size
  clear hm6
  have ha7 := own_below ha6 hb
  have hb7 := own_below hb6 hb
  obtain ⟨aw, cw, rfl, hr7⟩ := own_row hv7
  clear B6 hw6 ha6 hb6 hb hv7
  go_wp2_with fail
  refine (alike_eq _ _ _ _ _ _ _ _ (row_at ha7) hr7 (by omega)).mono ?_
  rintro e w8 ⟨rfl, hb⟩
  have B8 := B7.trans (hb.mono B7.size)
  have hw8 := own_below hw7 hb
  have hm8 := Nat.le_trans hm7 hb.size
  clear hm7
  have ha8 := own_below ha7 hb
  have hb8 := own_below hb7 hb
  have hr8 := hr7.below hb
  clear B7 hw7 ha7 hb7 hb hr7
  go_wp2_with fail
  refine (alike_eq _ _ _ _ _ _ _ _ (row_at hb8) hr8 (by omega)).mono ?_
  rintro e w9 ⟨rfl, hb⟩
  have B9 := B8.trans (hb.mono B8.size)
  have hw9 := own_below hw8 hb
  have hm9 := Nat.le_trans hm8 hb.size
  clear hm8
  have ha9 := own_below ha8 hb
  have hb9 := own_below hb8 hb
  clear B8 hw8 ha8 hb8 hb hr8
  have C9 := hide (clean_bytes _ _ _ _ _ ((row_at hw9).head (unhide hlen)) (unhide Hz) (by omega))
  rw [← unhide HD] at C9
  go_wp2_with fail
  refine (unhide C9).mono ?_
  rintro e w10 ⟨rfl, hb⟩
  clear C9
  have B10 := B9.trans (hb.mono B9.size)
  have hw10 := own_below hw9 hb
  have hm10 := Nat.le_trans hm9 hb.size
  clear hm9
  have ha10 := own_below ha9 hb
  have hb10 := own_below hb9 hb
  clear B9 hw9 ha9 hb9 hb
  have hcv1 := row_string (P := Try.prog) (row_at hw10) 33 9 5 Try.underlying33 Try.underlying5 Try.underlying9
  have hcv2 := row_string (P := Try.prog) (h.below B10) 33 9 5 Try.underlying33 Try.underlying5 Try.underlying9
  rw [← str_add, tail_str] at hcv1
  have hss : (strOfNums zs).size ≤ 1048576 := by rw [strOfNums_size, unhide hlen]; exact hn
  generalize strOfNums zs = SZ at *
  unfold tailC at hcv1
  go_wp2_with fail
  have al10 : Below w10.heap.size w10 (w10.alloc (.cells #[.slice aa CL.length ca, .slice ab CL.length cb] 22)) := (Below.refl _ _).alloc (Nat.le_refl _) _
  have hLs := lists_pair ha10 hb10 hb34 (unhide hmid)
  have hw11 := own_below hw10 al10
  have B11 := B10.trans (al10.mono B10.size)
  have hbs : base ≤ w10.heap.size := by omega
  refine (apart_true _ _ _ _ _ _ _ _ hLs (by omega) (fun _ => by omega) (Nat.le_trans hbs al10.size)).mono ?_
  rintro e w12 ⟨rfl, hb⟩
  have hw12 := own_lt_keep' hw11 hb hgl
  have B12 := B11.trans (hb.mono B3s)
  clear hLs hw11 B11 hb ha10 hb10 hw10 B10 hmid al10 hbs hcv1 hcv2
  go_wp2
  go_loopw [13] (fun i wr => ∃ k : Nat, k ≤ n ∧ i = .int .i64 k ∧ wr.ownsRow w.heap.size 5 1 (.slice (some ⟨g3, 0, none⟩) (n + 36) cap3) (n + 36) ((setF (zs ++ tailL) (otherF zs' n') k).map (Value.int .u8)) ∧ Below w.heap.size w wr) (fun i _ => n - (intOf i).toNat)
  case atStart => exact ⟨0, Nat.zero_le _, rfl, by rw [setF_zero]; exact hw12, B12⟩
  case round =>
    obtain ⟨k, hk, rfl, hwk, hbk⟩ := hrel
    clear hw12 B12
    by_cases hlt : k < n
    · have ki : (k : Int) < (n : Int) := by omega
      have ki2 : (k : Int) < (n : Int) + 36 := by omega
      have hll : k < (zs ++ tailL).length := by rw [List.length_append, unhide hlen]; omega
      have c1 : ∃ v, wr.cell? ⟨g3, k, none⟩ = some v := ⟨_, by rw [hwk.cellAt k (by omega), List.getElem?_eq_getElem (by rw [hwk.1]; omega)]⟩
      obtain ⟨u1, c1⟩ := c1
      have f1 := hwk.frozenAt k
      have hwk1 := (hwk.stored k (.int .u8 122)).1
      have hbk1 : Below w.heap.size w (wr.setCell ⟨g3, k, none⟩ (.int .u8 122)) := hbk.setCell (own_lt hwk).1 _
      by_cases hlt' : k < n'
      · have ki' : (k : Int) < (n' : Int) := by omega
        have c2 : ∃ v, (wr.setCell ⟨g3, k, none⟩ (.int .u8 122)).cell? ⟨g3, k, none⟩ = some v := ⟨_, by rw [hwk1.cellAt k (by omega), List.getElem?_eq_getElem (by rw [hwk1.1]; omega)]⟩
        obtain ⟨u2, c2⟩ := c2
        have f2 := hwk1.frozenAt k
        rcases (h'.below hbk1).at_ with h0 | ⟨b, off, rfl, hbw, hcell⟩
        · omega
        have c3 := hcell k hlt'
        have hy : otherF zs' n' k = zs'.getD k 0 := if_pos hlt'
        have hwk2 := (hwk1.stored k (.int .u8 (zs'.getD k 0))).1
        have hbk2 : Below w.heap.size w ((wr.setCell ⟨g3, k, none⟩ (.int .u8 122)).setCell ⟨g3, k, none⟩ (.int .u8 (zs'.getD k 0))) := hbk1.setCell (own_lt hwk1).1 _
        rw [map_set_int, map_set_int, ← hy, setF_set2 _ _ _ _ hll, hy] at hwk2
        generalize zs'.getD k 0 = y at *
        have HW := hide hwk2
        have HB := hide hbk2
        clear hwk hbk hwk1 hbk1 hwk2 hbk2 hll hcell hy
        go_wp2
        go_roundw
        case rel => exact ⟨k + 1, by omega, by go_num, unhide HW, unhide HB⟩
        case measure => simp [intOf]; omega
      · have ki' : ¬ (k : Int) < (n' : Int) := by omega
        have hy : otherF zs' n' k = 122 := if_neg hlt'
        rw [map_set_int, ← hy, setF_set _ _ _ hll, hy] at hwk1
        have HW := hide hwk1
        have HB := hide hbk1
        clear hwk hbk hwk1 hbk1 hll hy
        go_wp2
        go_roundw
        case rel => exact ⟨k + 1, by omega, by go_num, unhide HW, unhide HB⟩
        case measure => simp [intOf]; omega
    · have ki : ¬ (k : Int) < (n : Int) := by omega
      have ek : k = n := by omega
      subst ek
      rw [setF_all _ _ _ _ (unhide hlen)] at hwk
      have HLl := hide (show ((List.range k).map (otherF zs' n')).length = k from by simp)
      generalize (List.range k).map (otherF zs' n') = L at *
      have hd2 := decZ_len L (unhide HB2)
      have he2 := decZ_le L (unhide HB2)
      rw [unhide HLl] at he2
      obtain ⟨w14, hw14⟩ : ∃ w14, w14 = wr := ⟨_, rfl⟩
      subst hw14
      have D14 := hide (decode_bytes _ _ _ _ _ ((row_at hwk).head (unhide HLl)) (unhide HB2) (by omega))
      obtain ⟨D2, hD2⟩ : ∃ D, D = (decZ L).2 := ⟨_, rfl⟩
      obtain ⟨CL2, hCL2⟩ : ∃ CL, CL = (decZ L).1 := ⟨_, rfl⟩
      rw [← hD2] at hd2 he2 D14
      rw [← hCL2] at hd2 D14
      have HD2 := hide hD2
      have HCL2 := hide hCL2
      clear hD2 hCL2
      go_wp2_with fail
      refine (unhide D14).mono ?_
      rintro e w15 ⟨vc, rfl, hc15, hb⟩
      clear D14
      have B15 := hbk.trans (hb.mono hbk.size)
      have hw15 := own_below hwk hb
      obtain ⟨ac, cc, rfl, hr15⟩ := own_row hc15
      clear hbk hwk hb hc15
      have C15 := hide (clean_bytes _ _ _ _ _ ((row_at hw15).head (unhide HLl)) (unhide HB2) (by omega))
      rw [← unhide HD2] at C15
      go_wp2_with fail
      refine (unhide C15).mono ?_
      rintro e w16 ⟨rfl, hb⟩
      clear C15
      have B16 := B15.trans (hb.mono B15.size)
      have hw16 := own_below hw15 hb
      have hr16 := hr15.below hb
      clear B15 hw15 hr15 hb
      go_wp2_with fail
      refine (copied_any _ _ _ _ _ ((row_at hw16).head (unhide HLl)) (by omega)).mono ?_
      rintro e w17 ⟨rfl, hs17, hb⟩
      have B17 := B16.trans (hb.mono B16.size)
      have hr17 := hr16.below hb
      clear B16 hw16 hr16 hb
      have D17 := hide (rdecode_any _ _ _ _ _ (row_at hs17) (unhide HB2) (by omega))
      rw [← unhide HD2, ← unhide HCL2] at D17
      clear hs17
      go_wp2_with fail
      refine (unhide D17).mono ?_
      rintro e w18 ⟨vd, rfl, hd18, hb⟩
      clear D17
      have B18 := B17.trans (hb.mono B17.size)
      have hr18 := hr17.below hb
      obtain ⟨ad, cd, rfl, hq18⟩ := own_row hd18
      clear B17 hr17 hb hd18
      go_wp2_with fail
      refine (alike_eq _ _ _ _ _ _ _ _ hr18 hq18 (by omega)).mono ?_
      rintro e w19 ⟨rfl, hb⟩
      have B19 := B18.trans (hb.mono B18.size)
      clear B18 hr18 hq18 hb
      go_wp2
      go_ret
      exact ⟨rfl, B19⟩
end Go.Proofs.Ytidkdnlbecompac.mem
