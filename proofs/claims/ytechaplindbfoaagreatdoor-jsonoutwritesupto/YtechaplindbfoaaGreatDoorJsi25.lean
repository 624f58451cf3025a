import Derived.Test.YtechaplindbfoaaGreatDoorJsi24
namespace Go.Proofs.YtechaplindbfoaaGreatDoor.jsn
open Go.ChangeShapes Go.WideShapes Go.ChangeAt Go.RowKit
open mem
open vl hiding hide unhide Hid
open ints (hide unhide)
set_option linter.unusedVariables false
set_option linter.unusedSimpArgs false
theorem partsO_pos (f g : Nat → List UInt8) (m : Nat) (h0 : m ≠ 0) : 1 ≤ (partsO f g m).length := by
  rcases m with _ | k
  · exact absurd rfl h0
  · rw [partsO]
    simp only [List.length_append, List.length_cons, List.length_nil]
    omega
set_option maxHeartbeats 4000000 in
set_option maxRecDepth 100000 in
theorem rmembers_ok (w0 : World) (fls : Fls) (a : Option Addr) (n c : Nat) (h : FlsAt w0 fls a n) (hn : n ≤ 1048576) (HP : ∀ (i : Nat) (q : ByteArray × Vl), fls.list[i]? = some q → PH w0 q.2) (HJ : ∀ (i : Nat) (q : ByteArray × Vl), fls.list[i]? = some q → (js NZ q.2).length + 10 ≤ 1100 * wtV q.2 ∧ cln q.1 = true ∧ q.1.size ≤ 1048576) (w : World) (r : Value) (l : List UInt8) (hl1 : 1 ≤ l.length) (hb : Below w0.heap.size w0 w) (ho : OwB w w0.heap.size r l) (hl : l.length + 10 + 1100 * wtF fls ≤ 70368744177664) :
    Calls Tryz.prog 68 #[r, .slice a n c] w fun e w' => ∃ r', e = .returned r' ∧ OwB w' w0.heap.size r' (l ++ partsO (nmAt fls) (jsF NZ fls) n) ∧ Fq w0.heap.size w r w' := by
  have hlen := FlsAt.len fls a n h
  have hB0 := hb.size
  go_enter Tryz.func68, Tryz.ntmps68
  go_wp2_with fail
  go_loopw [0, 5] (fun vo vi wr => ∃ m : Nat, m ≤ n ∧ vi = .int .i64 m ∧ Hid (OwB wr w0.heap.size vo (l ++ partsO (nmAt fls) (jsF NZ fls) m)) ∧ (m = 0 → vo = r) ∧ Fq w0.heap.size w r wr) (fun _ vi _ => n - (intOf vi).toNat)
  case atStart => exact ⟨0, Nat.zero_le _, rfl, hide (by simpa [partsO] using ho), fun _ => rfl, Fq.refl _ _ _⟩
  case round =>
    clear ho
    rename_i vo _ _
    obtain ⟨m, hm, rfl, ho, hvr, hfr⟩ := hrel
    have sfr := hfr.bel.size
    by_cases hlt : m < n
    · have ki : (m : Int) < (n : Int) := by omega
      obtain ⟨p, off, nm, v, us, rfl, hg, hn0, hnz, hr, hv⟩ := FlsAt.get fls _ n h m hlt
      have hp1 := partsO_len fls m (by omega) (fun i u _ hu => (HJ i u hu).1)
      have hp2 := sum_snoc (fun q : ByteArray × Vl => q.1.size + wtV q.2) fls.list m _ hg
      rw [← wtF_sum] at hp2
      have hp3 := com_len m
      have hpp := fun h0 : m ≠ 0 => partsO_pos (nmAt fls) (jsF NZ fls) m h0
      have hp4 := txt_le nm
      have hjs := hide (jsF_at NZ fls m _ hg)
      have hnm := hide (nmAt_at fls hg)
      have hput := hide (HP m _ hg)
      obtain ⟨hjv, hcl, hns⟩ := HJ m _ hg
      simp only at hp2 hjv hcl hns
      have HV := hide hv
      have hpl := World.block_lt_of_cell? w0 _ hn0
      have hn1 := keepC (hb.trans hfr.bel) hpl hn0
      have hng := hide (fun W (hW : Below w0.heap.size w0 W) => keepC hW hpl hn0)
      have hrg := hide (fun W (hW : Below w0.heap.size w0 W) => Row8.below hr hW)
      have iu := hide (show (Tryz.prog.info? 29).map (·.size) = some us.length by rw [hv.cells]; exact infoV)
      have TX := hide (fun W => rtext_any nm W hns)
      have hX : txS nm = ⟨(txt nm.data.toList).toArray⟩ ∧ txE nm = 0 := by unfold txS txE; rw [if_pos hcl, if_pos hcl]; exact ⟨rfl, rfl⟩
      rw [hX.1, hX.2] at TX
      obtain ⟨X, hXe⟩ : ∃ X : ByteArray, X = ⟨(txt nm.data.toList).toArray⟩ := ⟨_, rfl⟩
      have hXl := hide (show X.data.toList = txt nm.data.toList by rw [hXe])
      have zX2 : 2 ≤ X.size := by
        have h2 := congrArg List.length (unhide hXl)
        rw [size_list, txt_len] at h2
        omega
      have zX : X.size ≤ 6 * nm.size + 2 := by
        have h2 := congrArg List.length (unhide hXl)
        rw [size_list] at h2
        omega
      rw [← hXe] at TX
      clear hr hv hg hn0 HP HJ hXe hX hcl hns
      by_cases hz : m = 0
      · subst hz
        obtain rfl := hvr rfl
        clear hpp
        have kz : ¬ (0 : Int) < ((0 : Nat) : Int) := by omega
        have hn1 : wr.cell? ⟨p, off, none⟩ = some (.string nm) := by simpa using hn1
        have hrg := hide (fun W (hW : Below w0.heap.size w0 W) => (by have := unhide hrg W hW; simpa using this : Row8 W p (off + 1) us))
        go_wp2_with fail
        have b2' := hide ((hb.trans hfr.bel))
        have F2 := hide hfr
        have ho2' := hide (unhide ho)
        refine (unhide TX wr).mono ?_
        rintro e w3 ⟨rfl, b3⟩
        have s3 := b3.size
        have sW : w0.heap.size ≤ wr.heap.size := (unhide b2').size
        have ho3 := hide ((unhide ho2').below b3)
        have F3 := hide ((unhide F2).same (Fq.new sW b3))
        clear b3 TX F2 ho2' hn1
        go_wp2_with (first
          | (at_builtin; refine wp_puts (by rfl) _ _ (by rfl) w0.heap.size _ _ (by rfl) (unhide ho3) X (by rfl) (by simp only [List.length_append, List.length_cons, List.length_nil]; omega) (by omega) ?_; intro r4 w4 ho4 f4; have s4 := f4.bel.size; have HO4 := hide ho4; have F4 := hide ((unhide F3).same f4); clear ho4 f4 ho3)
          | (at_builtin; refine wp_putc (by rfl) _ _ (by rfl) w0.heap.size _ _ (by rfl) (unhide HO4) 58 (by rfl) (by simp only [List.length_append, List.length_cons, List.length_nil, size_list]; omega) (by omega) ?_; intro r5 w5 ho5 f5; have HO5 := hide ho5; have F5 := hide ((unhide F4).trans f5 (unhide HO4) (by simp only [List.length_append, List.length_cons, List.length_nil, size_list]; omega)); clear ho5 f5)
          | refine wpList_load_mid (by rfl) 29 _ (by rfl) p (off + 1) (by rfl) us _ (unhide hrg _ (hb.trans (unhide F5).bel)) Tryz.underlying29 (by rfl) (unhide iu) ?_)
        refine ((unhide hput) us w5 _ _ (unhide HV) (hb.trans (unhide F5).bel) (unhide HO5) (by simp only [List.length_append, List.length_cons, List.length_nil, size_list]; omega)).mono ?_
        rintro e w6 ⟨r', rfl, ho6, -, f6⟩
        have f6 := f6 (by simp only [List.length_append]; omega)
        have H6 := hide ho6
        have F6 := hide ((unhide F5).trans f6 (unhide HO5) (by simp only [List.length_append, List.length_cons, List.length_nil, size_list]; omega))
        clear ho6 f6 hrg hput HV iu HO4 HO5 F4 F5 F3 hng b2'
        go_wp2
        refine ⟨⟨0 + 1, by omega, by go_num, hide ?_, fun h => absurd h (by omega), unhide F6⟩, by simp only [intOf]; omega⟩
        have := unhide H6
        rw [← unhide hjs, unhide hXl, ← unhide hnm] at this
        simpa [partsO, com] using this
      · have kz : (0 : Int) < (m : Int) := by omega
        have hpp := hpp hz
        clear hvr
        go_wp2_with (first
          | (at_builtin; refine wp_putc (by rfl) _ _ (by rfl) w0.heap.size _ _ (by rfl) (unhide ho) 44 (by rfl) (by simp only [List.length_append]; omega) (by omega) ?_; intro r2 w2 ho2 f2; have hn2 := unhide hng w2 ((hb.trans hfr.bel).trans f2.bel); clear hn1))
        have b2' := hide ((hb.trans (hfr.bel.trans f2.bel)))
        have F2 := hide (hfr.trans f2 (unhide ho) (by rw [List.length_append]; omega))
        have ho2' := hide ho2
        refine (unhide TX w2).mono ?_
        rintro e w3 ⟨rfl, b3⟩
        have s3 := b3.size
        have sW : w0.heap.size ≤ w2.heap.size := (unhide b2').size
        have ho3 := hide ((unhide ho2').below b3)
        have F3 := hide ((unhide F2).trans (Fq.new sW b3) (unhide ho2') (by simp only [List.length_append, List.length_cons, List.length_nil, size_list]; omega))
        clear b3 TX F2 ho2' hn2 ho2 f2
        go_wp2_with (first
          | (at_builtin; refine wp_puts (by rfl) _ _ (by rfl) w0.heap.size _ _ (by rfl) (unhide ho3) X (by rfl) (by simp only [List.length_append, List.length_cons, List.length_nil]; omega) (by omega) ?_; intro r4 w4 ho4 f4; have s4 := f4.bel.size; have HO4 := hide ho4; have F4 := hide ((unhide F3).trans f4 (unhide ho3) (by simp only [List.length_append, List.length_cons, List.length_nil, size_list]; omega)); clear ho4 f4 ho3)
          | (at_builtin; refine wp_putc (by rfl) _ _ (by rfl) w0.heap.size _ _ (by rfl) (unhide HO4) 58 (by rfl) (by simp only [List.length_append, List.length_cons, List.length_nil, size_list]; omega) (by omega) ?_; intro r5 w5 ho5 f5; have HO5 := hide ho5; have F5 := hide ((unhide F4).trans f5 (unhide HO4) (by simp only [List.length_append, List.length_cons, List.length_nil, size_list]; omega)); clear ho5 f5)
          | refine wpList_load_mid (by rfl) 29 _ (by rfl) p (off + m * 9 + 1) (by rfl) us _ (unhide hrg _ (hb.trans (unhide F5).bel)) Tryz.underlying29 (by rfl) (unhide iu) ?_)
        refine ((unhide hput) us w5 _ _ (unhide HV) (hb.trans (unhide F5).bel) (unhide HO5) (by simp only [List.length_append, List.length_cons, List.length_nil, size_list]; omega)).mono ?_
        rintro e w6 ⟨r', rfl, ho6, -, f6⟩
        have f6 := f6 (by simp only [List.length_append]; omega)
        have H6 := hide ho6
        have F6 := hide ((unhide F5).trans f6 (unhide HO5) (by simp only [List.length_append, List.length_cons, List.length_nil, size_list]; omega))
        clear ho6 f6 hrg hput HV iu HO4 HO5 F4 F5 F3 hng b2'
        go_wp2
        refine ⟨⟨m + 1, by omega, by go_num, hide ?_, fun h => absurd h (by omega), unhide F6⟩, by simp only [intOf]; omega⟩
        have := unhide H6
        rw [← unhide hjs, unhide hXl, ← unhide hnm] at this
        have hc : com m = [44] := by unfold com; rw [if_neg hz]
        rw [partsO, hc]
        simpa only [List.append_assoc] using this
    · obtain rfl : m = n := by omega
      have ki : ¬ (m : Int) < (m : Int) := by omega
      go_wp2
      go_ret
      exact ⟨_, rfl, unhide ho, hfr⟩
end Go.Proofs.YtechaplindbfoaaGreatDoor.jsn
