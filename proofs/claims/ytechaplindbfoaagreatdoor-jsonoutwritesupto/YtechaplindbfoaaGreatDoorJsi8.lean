import Derived.Test.YtechaplindbfoaaGreatDoorJsi7
namespace Go.Proofs.YtechaplindbfoaaGreatDoor.og
open Go.ChangeShapes Go.WideShapes Go.ChangeAt Go.RowKit
open vl hiding cB cFl cS cF cI cK cIt
set_option linter.unusedVariables false
set_option linter.unusedSimpArgs false
/-- the name of member k -/
def nmK (fls : Fls) (k : Nat) : ByteArray := ((fls.list.map (·.1))[k]?).getD ⟨#[]⟩
theorem nmK_of {fls : Fls} {k : Nat} {nm : ByteArray} {v : Vl} (h : fls.list[k]? = some (nm, v)) : nmK fls k = nm := by
  unfold nmK
  rw [List.getElem?_map, h]
  rfl
theorem seen_no {fls : Fls} {k : Nat} {nm : ByteArray} (hk : k ≤ fls.list.length) (h : ∀ j, j < k → ((nmK fls j).toList == nm.toList) = false) : (seenN fls k).contains nm.data.toList = false := by
  rw [Bool.eq_false_iff]
  intro hc
  rw [List.contains_iff_exists_mem_beq] at hc
  obtain ⟨x, hx, e⟩ := hc
  have e : nm.data.toList = x := by simpa using e
  unfold seenN at hx
  rw [List.mem_map] at hx
  obtain ⟨s, hs, rfl⟩ := hx
  obtain ⟨j, hj, hjs⟩ := List.mem_take_iff_getElem.1 hs
  have h2 := h j (by simp at hj; omega)
  have h3 : nmK fls j = s := by
    unfold nmK
    rw [List.getElem?_eq_getElem (by simp at hj ⊢; omega), hjs]
    rfl
  rw [h3, stp.toList_data, stp.toList_data, e] at h2
  simp at h2
theorem seen_yes {fls : Fls} {k j : Nat} {nm : ByteArray} (hk : k ≤ fls.list.length) (hj : j < k) (h : ((nmK fls j).toList == nm.toList) = true) : (seenN fls k).contains nm.data.toList = true := by
  rw [List.contains_iff_exists_mem_beq]
  have hjl : j < (fls.list.map (·.1)).length := by simp; omega
  refine ⟨(nmK fls j).data.toList, ?_, ?_⟩
  · unfold seenN
    refine List.mem_map.2 ⟨nmK fls j, List.mem_take_iff_getElem.2 ⟨j, by simp; omega, ?_⟩, rfl⟩
    unfold nmK
    rw [List.getElem?_eq_getElem hjl]
    rfl
  · rw [stp.toList_data, stp.toList_data] at h
    have : (nmK fls j).data.toList = nm.data.toList := by simpa using h
    rw [this]
    simp
set_option maxHeartbeats 8000000 in
set_option maxRecDepth 100000 in
theorem flaw6 (b : Bool) (m : Int) (f : Nat) (tx ty : ByteArray) (its : Vls) (fls : Fls) (cs : List Value) (w : World) (hv : VlC w (.mk 6 b m f tx ty its fls) cs) (hwt : wtV (.mk 6 b m f tx ty its fls) ≤ 1048576) (hn : fls.list.length ≤ 1099511627776) :
    Calls Tryz.prog 63 #[.agg cs.toArray] w fun e w' => e = .returned (.int .i64 (nmF [] (fls.list.map (·.1)))) ∧ Below w.heap.size w w' := by
  unfold VlC at hv
  obtain ⟨ai, ni, ci, af, nf, cf, rfl, -, hFl, -, hnf, -, -, -, -, -, -, -, -⟩ := hv
  have hsf := storeF
  have hlen := FlsAt.len fls _ _ hFl
  obtain ⟨R, hR⟩ : ∃ R, nmF [] (fls.list.map (·.1)) = R := ⟨_, rfl⟩
  rw [hR]
  have HR := hide hR
  have HL := hide hlen
  have hnn : nf ≤ 1099511627776 := by omega
  have hsz := hide (show ∀ q ∈ fls.list, q.1.size ≤ 1048576 from fun q hq => by have := wtF_mem hq; rw [wtV] at hwt; omega)
  clear hR hlen hn hwt
  have HF := hide hFl
  clear hFl
  go_enter Tryz.func63, Tryz.ntmps63
  go_wp2_with fail
  obtain ⟨W0, hW0⟩ : ∃ W0, W0 = w.alloc (.cells #[Value.int IntKind.i64 6, Value.bool b, Value.int IntKind.i64 m, Value.float FloatKind.f64 f, Value.string tx, Value.string ty, Value.slice ai ni ci, Value.slice af nf cf] 29) := ⟨_, rfl⟩
  have hB0 : Below w.heap.size w W0 := by rw [hW0]; exact (Below.refl _ _).alloc (Nat.le_refl _) _
  have s0 : w.heap.size < W0.heap.size := by rw [hW0]; simp
  have z7 : W0.cell? ⟨w.heap.size, 7, none⟩ = some (.slice af nf cf) := by rw [hW0, World.cell?_alloc_at _ _ _ _ rfl]; rfl
  rw [← hW0]
  have Z7 := hide z7
  clear hW0 z7
  go_loopw [3] (fun vi wr => ∃ k : Nat, k ≤ nf ∧ vi = .int .i64 k ∧ vl.Hid (nmF (seenN fls k) ((fls.list.map (·.1)).drop k) = R) ∧ Below W0.heap.size W0 wr) (fun vi _ => nf - (intOf vi).toNat)
  case atStart => exact ⟨0, Nat.zero_le _, rfl, HR, Below.refl _ _⟩
  case round =>
    obtain ⟨k, hk, rfl, hres, hb⟩ := hrel
    have z7 : wr.cell? ⟨w.heap.size, 7, none⟩ = some (.slice af nf cf) := (hb.cell (p := ⟨w.heap.size, 7, none⟩) s0).trans (unhide Z7)
    by_cases hlt : k < nf
    · obtain ⟨p, off, nm, v, us, rfl, hg, hc0, hnm, -, -⟩ := FlsAt.get fls _ nf (unhide HF) k hlt
      have hpl : p < w.heap.size := World.block_lt_of_cell? w _ hc0
      have c0 : wr.cell? ⟨p, off + k * 9, none⟩ = some (.string nm) := ((hB0.trans (hb.mono hB0.size)).cell (p := ⟨p, off + k * 9, none⟩) hpl).trans hc0
      have hstep := nmF_step hg
      rw [unhide hres] at hstep
      have HS := hide hstep
      have hss : nm.size ≤ 1048576 := unhide hsz _ (List.mem_of_getElem? hg)
      have HG := hide hg
      obtain ⟨cap, W2, hconv, hrow, b2⟩ := conv_bytes nm wr
      have C := hide (rclean_ok nm _ cap W2 hrow hss)
      have ki : (k : Int) < (nf : Int) := by omega
      have C0 := hide hc0
      clear hstep hg hrow hres hc0
      go_wp2_with fail
      refine (unhide C).mono ?_
      rintro e w3 ⟨rfl, b3⟩
      have hb3 : Below W0.heap.size W0 w3 := (hb.trans (b2.mono hb.size)).trans (b3.mono (Nat.le_trans hb.size b2.size))
      generalize clnS nm = L at *
      clear C b2 b3 hconv c0 z7 hb
      cases L with
      | false =>
        go_wp2
        go_ret
        exact ⟨by rw [unhide HS]; try rfl, hB0.trans (hb3.mono hB0.size)⟩
      | true =>
        go_wp2_with fail
        go_loopw [4] (fun vj ws => ∃ j : Nat, j ≤ k ∧ vj = .int .i64 j ∧ vl.Hid (∀ t, t < j → ((nmK fls t).toList == nm.toList) = false) ∧ Below W0.heap.size W0 ws) (fun vj _ => k - (intOf vj).toNat)
        case atStart => exact ⟨0, Nat.zero_le _, rfl, hide (fun t ht => absurd ht (Nat.not_lt_zero _)), hb3⟩
        case round =>
          obtain ⟨j, hj, rfl, hno, hbj⟩ := hrel
          have z7 : wr.cell? ⟨w.heap.size, 7, none⟩ = some (.slice (some ⟨p, off, none⟩) nf cf) := (hbj.cell (p := ⟨w.heap.size, 7, none⟩) s0).trans (unhide Z7)
          by_cases hlj : j < k
          · obtain ⟨p', off', nmj, v', us', e', hgj, hcj, -, -, -⟩ := FlsAt.get fls _ nf (unhide HF) j (by omega)
            simp only [Option.some.injEq, Addr.mk.injEq, and_true] at e'
            obtain ⟨rfl, rfl⟩ := e'
            have hBw : Below w.heap.size w wr := hB0.trans (hbj.mono hB0.size)
            have c0 : wr.cell? ⟨p, off + j * 9, none⟩ = some (.string nmj) := (hBw.cell (p := ⟨p, off + j * 9, none⟩) hpl).trans hcj
            have c1 : wr.cell? ⟨p, off + k * 9, none⟩ = some (.string nm) := (hBw.cell (p := ⟨p, off + k * 9, none⟩) hpl).trans (unhide C0)
            have hkj := nmK_of hgj
            obtain ⟨B, hB⟩ : ∃ B, (nmj.toList == nm.toList) = B := ⟨_, rfl⟩
            have HB := hide (show ((nmK fls j).toList == nm.toList) = B by rw [hkj]; exact hB)
            have kj : (j : Int) < (k : Int) := by omega
            have jn : (j : Int) < (nf : Int) := by omega
            have hmx := vl.mixed
            clear hkj hgj hcj
            cases B with
            | true =>
              go_wp2_with fail
              go_region
              go_wp2
              go_ret
              refine ⟨?_, hBw.drew⟩
              rw [unhide HS, seen_yes (by rw [unhide HL]; omega) hlj (unhide HB)]
              rfl
            | false =>
              go_wp2_with fail
              go_region
              go_wp2
              go_roundw
              case rel => exact ⟨j + 1, by omega, by simp, hide (fun t ht => by by_cases h : t = j; · rw [h]; exact unhide HB
                                                                                · exact unhide hno t (by omega)), hbj.drew⟩
              case measure => simp [intOf]; omega
          · obtain rfl : j = k := by omega
            have hns := seen_no (by rw [unhide HL]; omega) (unhide hno)
            have hS2 := unhide HS
            rw [hns] at hS2
            have HS2 := hide (show nmF (seenN fls (j + 1)) ((fls.list.map (·.1)).drop (j + 1)) = R by rw [hS2]; rfl)
            clear hns hS2
            go_wp2
            go_roundw
            case rel => exact ⟨j + 1, by omega, by simp, HS2, hbj⟩
            case measure => simp [intOf]; omega
    · have hfin : R = 0 := by
        have := unhide hres
        rw [List.drop_eq_nil_of_le (by rw [List.length_map, unhide HL]; omega)] at this
        rw [← this, nmF]
      subst hfin
      go_wp2
      go_ret
      exact ⟨rfl, hB0.trans (hb.mono hB0.size)⟩
end Go.Proofs.YtechaplindbfoaaGreatDoor.og
