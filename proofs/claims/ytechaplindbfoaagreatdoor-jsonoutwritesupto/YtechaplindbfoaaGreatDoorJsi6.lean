import Derived.Test.YtechaplindbfoaaGreatDoorJsi5
import Derived.Laws.BytesArg
namespace Go.Proofs.YtechaplindbfoaaGreatDoor.jsn
open Go.ChangeShapes Go.WideShapes Go.ChangeAt Go.RowKit
open mem Go.Maps
open vl hiding hide unhide Hid
open ints (hide unhide)
set_option linter.unusedVariables false
/-- what the reference lays for the first k characters -/
def chrTo (zs : List Int) (k : Nat) : List Int := (zs.take k).flatMap chrZ
theorem chrTo_succ (zs : List Int) (k : Nat) (h : k < zs.length) : chrTo zs (k + 1) = chrTo zs k ++ chrZ (zs.getD k 0) := by
  unfold chrTo
  rw [List.take_add_one, List.flatMap_append]
  simp [List.getD, h]
theorem chrZ_len (c : Int) : (chrZ c).length ≤ 6 := by
  unfold chrZ
  split
  · unfold chr7 zB
    rw [List.length_map]
    exact esc_len _
  · have := putB_len c
    omega
theorem chrZ_pos (c : Int) : 1 ≤ (chrZ c).length := by
  unfold chrZ
  split
  · unfold chr7 zB
    rw [List.length_map]
    exact esc_pos _
  · exact (putB_len c).1
theorem all_at {zs : List Int} (h : zs.all scB = true) (k : Nat) (hk : k < zs.length) : scB (zs.getD k 0) = true := by
  rw [List.all_eq_true] at h
  refine h _ ?_
  simp [List.getD, hk]
theorem chrTo_len (zs : List Int) : ∀ k, (chrTo zs k).length ≤ 6 * k
  | 0 => by simp [chrTo]
  | k + 1 => by
    by_cases h : k < zs.length
    · rw [chrTo_succ zs k h, List.length_append]
      have := chrTo_len zs k
      have := chrZ_len (zs.getD k 0)
      omega
    · have e : chrTo zs (k + 1) = chrTo zs k := by
        unfold chrTo
        rw [List.take_of_length_le (by omega), List.take_of_length_le (by omega)]
      rw [e]
      have := chrTo_len zs k
      omega
theorem str_add' (xs ys : List Int) : strOfNums xs ++ strOfNums ys = strOfNums (xs ++ ys) := by
  apply ByteArray.ext
  apply Array.toList_inj.1
  rw [ByteArray.data_append, Array.toList_append, strOfNums_data, strOfNums_data, strOfNums_data, List.map_append]
theorem conv_bytes (s : ByteArray) (w : World) (hs : s.size ≤ 1048576) : ∃ cap W2, (convert 9 34 (.string s)).run Tryz.prog w = .ok (.slice (some ⟨w.heap.size, 0, none⟩) s.size cap) W2 ∧
    Row .u8 W2 (some ⟨w.heap.size, 0, none⟩) s.size cap (bytesZ s) ∧ Below w.heap.size w W2 := by
  have h := run_bytes_of_string (P := Tryz.prog) w 9 34 5 s Tryz.underlying9 Tryz.underlying34 Tryz.underlying5
  refine ⟨_, _, h, ⟨bytesZ_len s, grownCap_ge _ _ _ _, (fun e => by cases e), .inr ⟨w.heap.size, 0, rfl, by simp, fun i hi => ?_⟩⟩, (Below.refl _ _).drew.alloc (Nat.le_refl _) _⟩
  have e : (w.drew.alloc (.cells (bytesRow s (grownCap w s.size 0 5)) 5 ((bytesRow s (grownCap w s.size 0 5)).size, (bytesRow s (grownCap w s.size 0 5)).size + 1))).cell? ⟨w.drew.heap.size, 0 + i, none⟩ = (bytesRow s (grownCap w s.size 0 5))[0 + i]? := World.cell?_alloc_mark _ _ _ _ _
  refine e.trans ?_
  have hi' : i < s.data.size := hi
  unfold bytesRow bytesZ
  rw [Nat.zero_add, Array.getElem?_append_left (by simpa using hi')]
  have e2 : (s.data.toList.map fun b => (b.toNat : Int)).getD i 0 = ((s.data[i]'hi').toNat : Int) := by simp [List.getD, Array.getElem?_eq_getElem hi']
  rw [e2, Array.getElem?_map, Array.getElem?_eq_getElem hi']
  rfl
set_option maxHeartbeats 4000000 in
set_option maxRecDepth 100000 in
theorem rtext_no (s : ByteArray) (w : World) (hs : s.size ≤ 1048576) (h : (decZ (bytesZ s)).2 < s.size) :
    Calls Tryz.prog 66 #[.string s] w fun e w' => e = .returned (.tuple #[.string ⟨#[]⟩, .int .i64 1]) ∧ Below w.heap.size w w' := by
  obtain ⟨cap, W2, hc, hr, hb⟩ := conv_bytes s w hs
  have D := hide (rdecode_any _ _ _ _ W2 hr (bytesZ_byt s) (by omega))
  obtain ⟨g, hg⟩ : ∃ g, g = (decZ (bytesZ s)).2 := ⟨_, rfl⟩
  rw [← hg] at h D
  clear hr hg
  go_enter Tryz.func66, Tryz.ntmps66
  go_wp2_with fail
  refine (unhide D).mono ?_
  rintro e w1 ⟨v, rfl, ho, b1⟩
  clear D ho
  go_wp2
  go_ret2
  exact ⟨rfl, hb.trans (b1.mono hb.size)⟩
set_option maxHeartbeats 4000000 in
set_option maxRecDepth 100000 in
theorem rtext_yes (s : ByteArray) (w : World) (hs : s.size ≤ 1048576) (zs : List Int) (hall : zs.all scB = true) (hz : zs = (decZ (bytesZ s)).1) (h : (decZ (bytesZ s)).2 = s.size) (hzl : zs.length ≤ s.size) :
    Calls Tryz.prog 66 #[.string s] w fun e w' => e = .returned (.tuple #[.string (strOfNums (34 :: chrTo zs zs.length ++ [34])), .int .i64 0]) ∧ Below w.heap.size w w' := by
  obtain ⟨cap, W2, hc, hr, hb⟩ := conv_bytes s w hs
  have D := hide (rdecode_any _ _ _ _ W2 hr (bytesZ_byt s) (by omega))
  rw [h, ← hz] at D
  obtain ⟨R, hR⟩ : ∃ R, R = strOfNums (34 :: chrTo zs zs.length ++ [34]) := ⟨_, rfl⟩
  rw [← hR]
  have HR := hide hR
  have hall0 := hide hall
  obtain ⟨i0, hi, hz0, hz1, hz2⟩ := info_parts info8
  clear hr hz h hR hall
  go_enter Tryz.func66, Tryz.ntmps66
  go_wp2_with fail
  refine (unhide D).mono ?_
  rintro e w1 ⟨v, rfl, ho, b1⟩
  clear D
  obtain ⟨aC, cC, rfl, hrow⟩ := own_row ho
  clear ho
  go_wp2_with fail
  have HB1 := hide (hb.trans (b1.mono hb.size))
  have HS := hide (fun k hk => (scB_iff (zs.getD k 0)).1 (all_at (unhide hall0) k hk))
  clear hb b1 hall0
  go_loopw [6, 7] (fun v i wr => ∃ k : Nat, k ≤ zs.length ∧ i = .int .i64 k ∧ wr.ownsRow w1.heap.size 5 1 v ((chrTo zs k).length + 1) ((34 :: chrTo zs k).map (Value.int .u8)) ∧ Below w1.heap.size w1 wr) (fun _ i _ => zs.length - (intOf i).toNat)
  case atStart => exact ⟨0, Nat.zero_le _, rfl, put_lit w1 [34] 1 (by unfold maxLen; omega) rfl, (Below.refl _ _).alloc (Nat.le_refl _) _⟩
  case round =>
    obtain ⟨k, hk, rfl, hown, hbel⟩ := hrel
    have hcl := chrTo_len zs k
    by_cases hlt : k < zs.length
    · rcases hrow.at_ with h0 | ⟨b, off, rfl, hbw, hcell⟩
      · omega
      have c1 := (hbel.cell (p := ⟨b, off + k, none⟩) hbw).trans (hcell k hlt)
      have C := hide (char_ok (zs.getD k 0) wr (unhide HS k hlt))
      have hsn := chrTo_succ zs k hlt
      have hl6 := chrZ_len (zs.getD k 0)
      have hp1 := chrZ_pos (zs.getD k 0)
      obtain ⟨x, hx⟩ : ∃ x, x = zs.getD k 0 := ⟨_, rfl⟩
      rw [← hx] at c1 C hsn hl6 hp1
      obtain ⟨P, hP⟩ : ∃ P, P = chrZ x := ⟨_, rfl⟩
      rw [← hP] at C hsn hl6 hp1
      have Hsn := hide hsn
      clear hsn hx hP hcell
      have hsz := hbel.size
      go_wp2_with fail
      refine (unhide C).mono ?_
      rintro e w2 ⟨v2, rfl, ho2, b2⟩
      obtain ⟨a2, c2, rfl, hr2⟩ := own_row ho2
      obtain ⟨ad, rfl⟩ : ∃ ad, a2 = some ad := by
        cases a2 with
        | none => have := hr2.nil rfl; have := hr2.le; omega
        | some ad => exact ⟨ad, rfl⟩
      have hcel := hr2.cells ad rfl
      have hown2 := own_below hown b2
      have hB2 := hide (hbel.trans (b2.mono hsz))
      have hsz2 : w1.heap.size ≤ w2.heap.size := Nat.le_trans hsz b2.size
      clear C ho2 b2 hr2 hown hbel c1
      go_wp2_with (at_builtin; refine wpList_append_own _ rfl _ _ 34 rfl w1.heap.size 5 i0 (.int .u8 0) 1 1 Tryz.underlying34 hi hz0 hz1 hz2 rfl (by decide) _ _ _ rfl hown2 ad P.length c2 (P.map (Value.int .u8)) rfl (by simp) hcel (ints_oneCell _ _) (by unfold maxLen; omega) (by omega) hsz2 ?_; intro v' w3 hown' hgrow _)
      refine ⟨⟨k + 1, by omega, rfl, ?_, ?_⟩, ?_⟩
      · rw [unhide Hsn]
        have e1 : (chrTo zs k ++ P).length + 1 = (chrTo zs k).length + 1 + P.length := by rw [List.length_append]; omega
        rw [e1, ← List.cons_append, List.map_append]
        exact hown'
      · exact (unhide hB2).grown hgrow hsz2 (fun q hq => (hown2.lt q hq).1)
      · simp only [intOf]
        omega
    · obtain rfl : k = zs.length := by omega
      obtain ⟨aO, cO, rfl, hrO⟩ := own_row hown
      have hconv := row_string (P := Tryz.prog) hrO 34 9 5 Tryz.underlying34 Tryz.underlying5 Tryz.underlying9
      have hss : (strOfNums (34 :: chrTo zs zs.length)).size = (chrTo zs zs.length).length + 1 := by rw [strOfNums_size]; simp
      obtain ⟨S, hS⟩ : ∃ S, S = strOfNums (34 :: chrTo zs zs.length) := ⟨_, rfl⟩
      rw [← hS] at hconv hss
      have HS2 := hide hS
      clear hS hrO hown hrow
      go_wp2
      go_ret2
      refine ⟨?_, (unhide HB1).trans (hbel.mono (unhide HB1).size)⟩
      rw [unhide HR, unhide HS2, ← str_add']
      rfl
theorem str_zB (l : List UInt8) : strOfNums (zB l) = ⟨l.toArray⟩ := by
  have hb : Byt (zB l) := by
    intro z hz
    simp only [zB, List.mem_map] at hz
    obtain ⟨b, _, rfl⟩ := hz
    have := UInt8.toNat_lt b
    omega
  have h := bytesZ_str (zB l) hb
  have h2 : zB (strOfNums (zB l)).data.toList = zB l := h
  have h3 := zB_inj h2
  cases hS : strOfNums (zB l) with
  | mk d =>
    rw [hS] at h3
    simp at h3
    rw [← h3]
theorem rtext_any (s : ByteArray) (w : World) (hs : s.size ≤ 1048576) :
    Calls Tryz.prog 66 #[.string s] w fun e w' => e = .returned (.tuple #[.string (txS s), .int .i64 (txE s)]) ∧ Below w.heap.size w w' := by
  cases h : cln s
  · rw [txS_no h, txE_no h]
    refine rtext_no s w hs ?_
    have h1 := decZ_le (bytesZ s) (bytesZ_byt s)
    rw [bytesZ_len] at h1
    have h2 : ¬ (decZ (bytesZ s)).2 = s.size := by
      intro e
      unfold cln at h
      rw [e] at h
      simp at h
    omega
  · rw [txS_yes h, txE_yes h]
    obtain ⟨zs, h1, h2, h3⟩ := cln_flat s h
    have h4 : (decZ (bytesZ s)).2 = s.size := by
      unfold cln at h
      have : (((decZ (bytesZ s)).2 : Nat) : Int) = (s.size : Int) := by simpa using h
      omega
    have h5 := decZ_len (bytesZ s) (bytesZ_byt s)
    have hR := rtext_yes s w hs zs h1 h3 h4 (by rw [h3]; omega)
    have e : strOfNums (34 :: chrTo zs zs.length ++ [34]) = ⟨(txt s.data.toList).toArray⟩ := by
      rw [← str_zB]
      congr 1
      have hb := body_flat zs s.data.toList (fun c hc => (scB_iff c).1 (List.all_eq_true.1 h1 c hc)) h2
      unfold txt chrTo
      rw [List.take_length]
      have e1 : zB (34 :: (body s.data.toList ++ [34])) = 34 :: (zB (body s.data.toList) ++ [34]) := by simp [zB]
      rw [e1, hb]
      rfl
    rw [e] at hR
    exact hR
end Go.Proofs.YtechaplindbfoaaGreatDoor.jsn
