import Derived.Test.YtcehhkjlbhodeaaDoorSvR2
import Derived.Laws.BytesArg
import Derived.Lib.AppendStr
namespace Go.Proofs.YtcehhkjlbhodeaaDoor.sv
open Go.ChangeShapes Go.WideShapes Go.ChangeAt Go.RowKit
open mem
open ints (hide unhide)
set_option linter.unusedVariables false
theorem conv_bytes (s : ByteArray) (w : World) (hs : s.size ≤ 1048576) : ∃ cap W2, (convert 9 29 (.string s)).run Tryd.prog w = .ok (.slice (some ⟨w.heap.size, 0, none⟩) s.size cap) W2 ∧
    Row .u8 W2 (some ⟨w.heap.size, 0, none⟩) s.size cap (bytesZ s) ∧ Below w.heap.size w W2 := by
  have h := run_bytes_of_string (P := Tryd.prog) w 9 29 5 s Tryd.underlying9 Tryd.underlying29 Tryd.underlying5
  refine ⟨_, _, h, ⟨bytesZ_len s, grownCap_ge _ _ _ _, (fun e => by cases e), .inr ⟨w.heap.size, 0, rfl, by simp, fun i hi => ?_⟩⟩, (Below.refl _ _).drew.alloc (Nat.le_refl _) _⟩
  have e : (w.drew.alloc (.cells (bytesRow s (grownCap w s.size 0 5)) 5 ((bytesRow s (grownCap w s.size 0 5)).size, (bytesRow s (grownCap w s.size 0 5)).size + 1))).cell? ⟨w.drew.heap.size, 0 + i, none⟩ = (bytesRow s (grownCap w s.size 0 5))[0 + i]? := World.cell?_alloc_mark _ _ _ _ _
  refine e.trans ?_
  have hi' : i < s.data.size := hi
  unfold bytesRow bytesZ
  rw [Nat.zero_add, Array.getElem?_append_left (by simpa using hi')]
  have e2 : (s.data.toList.map fun b => (b.toNat : Int)).getD i 0 = ((s.data[i]'hi').toNat : Int) := by simp [List.getD, Array.getElem?_eq_getElem hi']
  rw [e2, Array.getElem?_map, Array.getElem?_eq_getElem hi']
  rfl
set_option maxHeartbeats 4000000 in
theorem rq_no (s : ByteArray) (w : World) (hs : s.size ≤ 1048576) (h : (decZ (bytesZ s)).2 < s.size) :
    Calls Tryd.prog 5 #[.string s] w fun e w' => e = .returned (.tuple #[.string ⟨#[]⟩, .int .i64 1]) ∧ Below w.heap.size w w' := by
  obtain ⟨cap, W2, hc, hr, hb⟩ := conv_bytes s w hs
  have D := hide (rdecode_any _ _ _ _ W2 hr (bytesZ_byt s) (by omega))
  obtain ⟨g, hg⟩ : ∃ g, g = (decZ (bytesZ s)).2 := ⟨_, rfl⟩
  rw [← hg] at h D
  clear hr hg
  go_enter Tryd.func5, Tryd.ntmps5
  go_wp2_with fail
  refine (unhide D).mono ?_
  rintro e w1 ⟨v, rfl, ho, b1⟩
  clear D ho
  go_wp2
  go_ret2
  exact ⟨rfl, hb.trans (b1.mono hb.size)⟩
set_option maxHeartbeats 4000000 in
theorem rq_yes (s : ByteArray) (w : World) (hs : s.size ≤ 1048576) (zs : List Int) (hall : zs.all scB = true) (hz : zs = (decZ (bytesZ s)).1) (h : (decZ (bytesZ s)).2 = s.size) (hzl : zs.length ≤ s.size) :
    Calls Tryd.prog 5 #[.string s] w fun e w' => e = .returned (.tuple #[.string (strOfNums (34 :: zs.flatMap wrB ++ [34])), .int .i64 0]) ∧ Below w.heap.size w w' := by
  obtain ⟨cap, W2, hc, hr, hb⟩ := conv_bytes s w hs
  have D := hide (rdecode_any _ _ _ _ W2 hr (bytesZ_byt s) (by omega))
  rw [h, ← hz] at D
  obtain ⟨R, hR⟩ : ∃ R, R = strOfNums (34 :: zs.flatMap wrB ++ [34]) := ⟨_, rfl⟩
  rw [← hR]
  have HR := hide hR
  have HA := hide (fun j hj => all_at hall j hj)
  have HL := hide (wrTo_len zs hall)
  clear hr hz h hR hall
  go_enter Tryd.func5, Tryd.ntmps5
  go_wp2_with fail
  refine (unhide D).mono ?_
  rintro e w1 ⟨v, rfl, ho, b1⟩
  clear D
  obtain ⟨aC, cC, rfl, hrow⟩ := own_row ho
  clear ho
  have HB1 := hide (hb.trans (b1.mono hb.size))
  clear hb b1
  go_wp2_with fail
  go_loopw [6, 7] (fun v i wr => ∃ k : Nat, k ≤ zs.length ∧ i = .int .i64 k ∧ v = .string (strOfNums (34 :: wrTo zs k)) ∧ Below w1.heap.size w1 wr) (fun _ i _ => zs.length - (intOf i).toNat)
  case atStart => exact ⟨0, Nat.zero_le _, rfl, rfl, Below.refl _ _⟩
  case round =>
    obtain ⟨k, hk, rfl, rfl, hbel⟩ := hrel
    have hl := unhide HL k hk
    have hss : (strOfNums (34 :: wrTo zs k)).size = (wrTo zs k).length + 1 := by rw [strOfNums_size]; rfl
    by_cases hlt : k < zs.length
    · rcases hrow.at_ with h0 | ⟨b, off, rfl, hbw, hcell⟩
      · omega
      have c1 := (hbel.cell (p := ⟨b, off + k, none⟩) hbw).trans (hcell k hlt)
      have C := hide (fun W => rw_ok (zs.getD k 0) W (unhide HA k hlt))
      have hwl := wrB_len _ (unhide HA k hlt)
      have hsn := hide (congrArg (fun x => strOfNums (34 :: x)) (wrTo_succ zs k hlt))
      obtain ⟨x, hx⟩ : ∃ x, x = zs.getD k 0 := ⟨_, rfl⟩
      rw [← hx] at c1 C hsn hwl
      have hzs : (strOfNums (wrB x)).size = (wrB x).length := strOfNums_size _
      have hsn2 := hide (show strOfNums (34 :: wrTo zs (k + 1)) = strOfNums (34 :: wrTo zs k) ++ strOfNums (wrB x) by rw [str_add]; exact unhide hsn)
      obtain ⟨S, hS⟩ : ∃ S, S = strOfNums (34 :: wrTo zs k) := ⟨_, rfl⟩
      rw [← hS] at hss hsn2 ⊢
      obtain ⟨T, hT⟩ : ∃ T, T = strOfNums (wrB x) := ⟨_, rfl⟩
      rw [← hT] at hsn2 C hzs
      clear hsn hx hS hT hcell
      have hsz := hbel.size
      go_wp2_with fail
      refine (unhide C _).mono ?_
      rintro e w2 ⟨rfl, b2⟩
      have hB2 := hide (hbel.trans (b2.mono hsz))
      clear C b2 hbel c1
      go_wp2
      refine ⟨⟨k + 1, by omega, rfl, ?_, unhide hB2⟩, ?_⟩
      · rw [unhide hsn2]
      · simp only [intOf]
        omega
    · obtain rfl : k = zs.length := by omega
      obtain ⟨S, hS⟩ : ∃ S, S = strOfNums (34 :: wrTo zs zs.length) := ⟨_, rfl⟩
      rw [← hS] at hss ⊢
      have HS := hide hS
      clear hS
      go_wp2
      go_ret2
      refine ⟨?_, (unhide HB1).trans (hbel.mono (unhide HB1).size)⟩
      have e : R = S ++ ⟨#[34]⟩ := by
        rw [unhide HR, unhide HS, show (⟨#[34]⟩ : ByteArray) = strOfNums [34] from rfl, str_add]
        unfold wrTo
        rw [List.take_length]
      rw [e]
      rfl
theorem rq_ok (s : ByteArray) (w : World) (hs : s.size ≤ 1048576) :
    Calls Tryd.prog 5 #[.string s] w fun e w' => e = .returned (.tuple #[.string (qS s), .int .i64 (qE s)]) ∧ Below w.heap.size w w' := by
  unfold qS qE
  cases h : cln s
  · exact rq_no s w hs (cln_no h)
  · have hl := decZ_len (bytesZ s) (bytesZ_byt s)
    rw [cln_yes h] at hl
    exact rq_yes s w hs _ (cln_flat s h).1 rfl (cln_yes h) hl
end Go.Proofs.YtcehhkjlbhodeaaDoor.sv
