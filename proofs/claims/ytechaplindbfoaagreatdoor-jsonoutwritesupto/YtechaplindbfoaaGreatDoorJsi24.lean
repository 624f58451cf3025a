import Derived.Test.YtechaplindbfoaaGreatDoorJsi23
namespace Go.Proofs.YtechaplindbfoaaGreatDoor.jsn
open Go.ChangeShapes Go.WideShapes Go.ChangeAt Go.RowKit
open mem
open vl hiding hide unhide Hid
open ints (hide unhide)
set_option linter.unusedVariables false
set_option linter.unusedSimpArgs false
theorem partsL_pos (its : Vls) (m : Nat) (hm : m ≤ its.list.length) (h0 : m ≠ 0) (HJ : ∀ (i : Nat) (v : Vl), its.list[i]? = some v → 1 ≤ (js NZ v).length) : 1 ≤ (partsL (jsL NZ its) m).length := by
  rcases m with _ | k
  · exact absurd rfl h0
  · have hg : its.list[k]? = some its.list[k] := List.getElem?_eq_getElem (by omega)
    have := HJ k _ hg
    rw [partsL, jsL_at NZ its k _ hg]
    simp only [List.length_append]
    omega
set_option maxHeartbeats 4000000 in
set_option maxRecDepth 100000 in
theorem ritems_ok (w0 : World) (its : Vls) (a : Option Addr) (n c : Nat) (h : VlsAt w0 its a n) (hn : n ≤ 1048576) (HP : ∀ (i : Nat) (v : Vl), its.list[i]? = some v → PH w0 v) (HJ : ∀ (i : Nat) (v : Vl), its.list[i]? = some v → (js NZ v).length + 10 ≤ 1100 * wtV v ∧ 1 ≤ (js NZ v).length) (w : World) (r : Value) (l : List UInt8) (hl1 : 1 ≤ l.length) (hb : Below w0.heap.size w0 w) (ho : OwB w w0.heap.size r l) (hl : l.length + 10 + 1100 * wtI its ≤ 70368744177664) :
    Calls Tryz.prog 67 #[r, .slice a n c] w fun e w' => ∃ r', e = .returned r' ∧ OwB w' w0.heap.size r' (l ++ partsL (jsL NZ its) n) ∧ Fq w0.heap.size w r w' := by
  have hlen := VlsAt.len its a n h
  have hB0 := hb.size
  go_enter Tryz.func67, Tryz.ntmps67
  go_wp2_with fail
  go_loopw [0, 5] (fun vo vi wr => ∃ m : Nat, m ≤ n ∧ vi = .int .i64 m ∧ Hid (OwB wr w0.heap.size vo (l ++ partsL (jsL NZ its) m)) ∧ (m = 0 → vo = r) ∧ Fq w0.heap.size w r wr) (fun _ vi _ => n - (intOf vi).toNat)
  case atStart => exact ⟨0, Nat.zero_le _, rfl, hide (by simpa [partsL] using ho), fun _ => rfl, Fq.refl _ _ _⟩
  case round =>
    clear ho
    rename_i vo _ _
    obtain ⟨m, hm, rfl, ho, hvr, hfr⟩ := hrel
    have sfr := hfr.bel.size
    by_cases hlt : m < n
    · have ki : (m : Int) < (n : Int) := by omega
      obtain ⟨p, off, v, us, rfl, hg, hr, hv⟩ := VlsAt.get its _ n h m hlt
      have hp1 := partsL_len its m (by omega) (fun i u _ hu => (HJ i u hu).1)
      have hpp := fun h0 : m ≠ 0 => partsL_pos its m (by omega) h0 (fun i u hu => (HJ i u hu).2)
      have hp2 := sum_snoc wtV its.list m v hg
      rw [← wtI_sum] at hp2
      have hp3 := com_len m
      have hjs := hide (jsL_at NZ its m v hg)
      have hput := hide (HP m v hg)
      have hjv := (HJ m v hg).1
      have HV := hide hv
      have hrw := hide (Row8.below hr (hb.trans hfr.bel))
      have hrg := hide (fun W (hW : Below w0.heap.size w0 W) => Row8.below hr hW)
      have iu := hide (show (Tryz.prog.info? 29).map (·.size) = some us.length by rw [hv.cells]; exact infoV)
      clear hr hv hg HP HJ
      by_cases hz : m = 0
      · subst hz
        obtain rfl := hvr rfl
        clear hpp
        have kz : ¬ (0 : Int) < ((0 : Nat) : Int) := by omega
        go_wp2_with (first
          | refine wpList_load_mid (by rfl) 29 _ (by rfl) p (off + 0 * 8) (by rfl) us _ (unhide hrw) Tryz.underlying29 (by rfl) (unhide iu) ?_)
        refine ((unhide hput) us wr _ _ (unhide HV) (hb.trans hfr.bel) (unhide ho) (by simp only [List.length_append]; omega)).mono ?_
        rintro e w3 ⟨r', rfl, ho3, -, f3⟩
        have f3 := f3 (by simp only [List.length_append]; omega)
        have H3 := hide ho3
        have F3 := hide (hfr.same f3)
        clear ho3 f3 hrw hrg hput HV iu
        go_wp2
        refine ⟨⟨0 + 1, by omega, by go_num, hide ?_, fun h => absurd h (by omega), unhide F3⟩, by simp only [intOf]; omega⟩
        have := unhide H3
        rw [← unhide hjs] at this
        simpa [partsL, com] using this
      · have kz : (0 : Int) < (m : Int) := by omega
        have hpp := hpp hz
        clear hvr
        go_wp2_with (first
          | (at_builtin; refine wp_putc (by rfl) _ _ (by rfl) w0.heap.size _ _ (by rfl) (unhide ho) 44 (by rfl) (by simp only [List.length_append]; omega) (by omega) ?_; intro r2 w2 ho2 f2; have f12 := hfr.trans f2 (unhide ho) (by rw [List.length_append]; omega))
          | refine wpList_load_mid (by rfl) 29 _ (by rfl) p (off + m * 8) (by rfl) us _ (unhide hrg _ ((hb.trans hfr.bel).trans f2.bel)) Tryz.underlying29 (by rfl) (unhide iu) ?_)
        refine ((unhide hput) us w2 _ _ (unhide HV) ((hb.trans hfr.bel).trans f2.bel) ho2 (by simp only [List.length_append, List.length_cons, List.length_nil]; omega)).mono ?_
        rintro e w3 ⟨r', rfl, ho3, -, f3⟩
        have f3 := f3 (by simp only [List.length_append]; omega)
        have H3 := hide ho3
        have F3 := hide (f12.trans f3 ho2 (by simp only [List.length_append, List.length_cons, List.length_nil]; omega))
        clear ho3 f3 hrw hrg hput HV iu ho2 f2 f12
        go_wp2
        refine ⟨⟨m + 1, by omega, by go_num, hide ?_, fun h => absurd h (by omega), unhide F3⟩, by simp only [intOf]; omega⟩
        have := unhide H3
        rw [← unhide hjs] at this
        have hc : com m = [44] := by unfold com; rw [if_neg hz]
        rw [partsL, hc]
        simpa only [List.append_assoc] using this
    · obtain rfl : m = n := by omega
      have ki : ¬ (m : Int) < (m : Int) := by omega
      go_wp2
      go_ret
      exact ⟨_, rfl, unhide ho, hfr⟩
end Go.Proofs.YtechaplindbfoaaGreatDoor.jsn
