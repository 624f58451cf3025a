import Derived.Test.YtidkdnlbecompabThereW
namespace Go.Proofs.Ytidkdnlbecompab.mem
open Go.ChangeShapes Go.WideShapes Go.ChangeAt Go.RowKit
open ints (hide unhide)
set_option linter.unusedVariables false

theorem str_add (xs ys : List Int) : strOfNums xs ++ strOfNums ys = strOfNums (xs ++ ys) := by
  apply ByteArray.ext
  apply Array.toList_inj.1
  rw [ByteArray.data_append, Array.toList_append, strOfNums_data, strOfNums_data, strOfNums_data, List.map_append]
theorem byt_app {a b : List Int} (ha : Byt a) (hb : Byt b) : Byt (a ++ b) := fun z hz => by
  rcases List.mem_append.1 hz with h | h
  · exact ha z h
  · exact hb z h
theorem own_some {w : World} {base : Nat} {e : TypeId} {g n cap : Nat} {zs : List Int} (h : w.ownsRow base e 1 (.slice (some ⟨g, 0, none⟩) n cap) n (zs.map (Value.int .i32))) :
    n ≤ cap ∧ g < w.heap.size ∧ (∀ i, i < n → w.cell? ⟨g, 0 + i, none⟩ = some (.int .i32 (zs.getD i 0))) ∧ Row .i32 w (some ⟨g, 0, none⟩) n cap zs := by
  have hl : zs.length = n := by simpa using h.1
  have hc : ∀ i, i < n → w.cell? ⟨g, 0 + i, none⟩ = some (.int .i32 (zs.getD i 0)) := by
    intro i hi
    rw [Nat.zero_add, World.ownsRow.cellAt h i (by omega)]
    simp [List.getD, show i < zs.length by omega]
  rcases h.2 with ⟨h2, _⟩ | ⟨g', cap', cur, hv, hg, hh, hnc, r⟩
  · cases h2
  · simp only [Value.slice.injEq, Option.some.injEq, Addr.mk.injEq] at hv
    obtain ⟨⟨rfl, _, _⟩, _, rfl⟩ := hv
    have hlt : g < w.heap.size := (Array.getElem?_eq_some_iff.1 hh).1
    exact ⟨hnc, hlt, hc, hl, hnc, (fun e => by cases e), .inr ⟨g, 0, rfl, hlt, hc⟩⟩
theorem own_form {w : World} {base : Nat} {e : TypeId} {v : Value} {n : Nat} {zs : List Int} (h : w.ownsRow base e 1 v n (zs.map (Value.int .i32))) :
    (v = .slice none 0 0 ∧ n = 0) ∨ ∃ g cap, v = .slice (some ⟨g, 0, none⟩) n cap ∧ n ≤ cap ∧ g < w.heap.size ∧ (∀ i, i < n → w.cell? ⟨g, 0 + i, none⟩ = some (.int .i32 (zs.getD i 0))) ∧ Row .i32 w (some ⟨g, 0, none⟩) n cap zs := by
  rcases h.2 with h2 | ⟨g, cap, cur, rfl, hg, hh, hnc, r⟩
  · exact .inl h2
  · right
    have hl : zs.length = n := by simpa using h.1
    have hc : ∀ i, i < n → w.cell? ⟨g, 0 + i, none⟩ = some (.int .i32 (zs.getD i 0)) := by
      intro i hi
      rw [Nat.zero_add, World.ownsRow.cellAt h i (by omega)]
      simp [List.getD, show i < zs.length by omega]
    have hlt : g < w.heap.size := (Array.getElem?_eq_some_iff.1 hh).1
    exact ⟨g, cap, rfl, hnc, hlt, hc, hl, hnc, (fun e => by cases e), .inr ⟨g, 0, rfl, hlt, hc⟩⟩
theorem conv_some (s : ByteArray) (w : World) (hs : (decZ (bytesZ s)).1.length ≤ 70368744177664) (g : Nat) (hg : g = (decZ (bytesZ s)).2) : ∃ V W2 g' cap', V = .slice (some ⟨g', 0, none⟩) (decZ (bytesZ s)).1.length cap' ∧ (convert 9 22 (.string (s.extract 0 g))).run Try.prog w = .ok V W2 ∧
    W2.ownsRow w.heap.size 21 1 V (decZ (bytesZ s)).1.length ((decZ (bytesZ s)).1.map (Value.int .i32)) ∧ Below w.heap.size w W2 := by
  subst hg
  have hr := runes_good s
  have hsz : (Conv.runesFrom (s.extract 0 (decZ (bytesZ s)).2) (s.extract 0 (decZ (bytesZ s)).2).size 0 #[]).size = (decZ (bytesZ s)).1.length := by rw [hr]; simp
  have h := run_runes_of_string (P := Try.prog) w 9 22 21 (s.extract 0 (decZ (bytesZ s)).2) Try.underlying9 Try.underlying22 Try.underlying21 (by rw [hsz]; omega)
  rw [hsz, hr] at h
  refine ⟨_, _, _, _, rfl, h, ⟨by simp, .inr ⟨w.heap.size, _, _, rfl, Nat.le_refl _, heap_alloc_new w.drew _, grownCap_ge _ _ _ _, grownCap_le_maxLen _ _ _ _ (by unfold maxLen; omega), ?_, ?_⟩⟩, ?_⟩
  · have := grownCap_ge w (decZ (bytesZ s)).1.length 0 21
    simp
    omega
  · simp
  · exact (Below.refl _ _).drew.alloc (Nat.le_refl _) _
set_option maxHeartbeats 1000000 in
theorem decode_str_some (s : ByteArray) (w : World) (hs0 : s.size ≤ 9223372036854775807) (hs : (decZ (bytesZ s)).1.length ≤ 70368744177664) :
    Calls Try.prog 13 #[.string s] w fun e w' => ∃ g cap, e = .returned (.tuple #[.slice (some ⟨g, 0, none⟩) (decZ (bytesZ s)).1.length cap, .int .i64 ((decZ (bytesZ s)).2 : Int)]) ∧
      w'.ownsRow w.heap.size 21 1 (.slice (some ⟨g, 0, none⟩) (decZ (bytesZ s)).1.length cap) (decZ (bytesZ s)).1.length ((decZ (bytesZ s)).1.map (Value.int .i32)) ∧ Below w.heap.size w w' := by
  have hg1 := decZ_le (bytesZ s) (bytesZ_byt s)
  rw [bytesZ_len] at hg1
  obtain ⟨g, hg⟩ : ∃ g, g = (decZ (bytesZ s)).2 := ⟨_, rfl⟩
  have G := hide (good_any s w (by omega))
  have C := hide (fun W => conv_some s W hs g hg)
  rw [← hg] at hg1 G ⊢
  clear hg
  go_enter Try.func13, Try.ntmps13
  go_wp2_with fail
  refine (unhide G).mono ?_
  rintro e w1 ⟨rfl, hb1⟩
  obtain ⟨V, W2, g', cap', hV, hconv, hown, hb2⟩ := unhide C w1
  subst hV
  have hg1i : (g : Int) ≤ (s.size : Int) := by omega
  clear C G
  go_wp2
  go_ret2
  exact ⟨g', cap', rfl, ⟨hown.1, hown.2.imp id (fun ⟨g', r1, r2, r3, r4, r5⟩ => ⟨g', r1, r2, r3, Nat.le_trans hb1.size r4, r5⟩)⟩, hb1.trans (hb2.mono hb1.size)⟩
set_option maxHeartbeats 4000000 in
set_option maxRecDepth 100000 in
theorem law_joined (a : Option Addr) (n c : Nat) (zs : List Int) (a' : Option Addr) (n' c' : Nat) (ms : List Int) (w : World) (h : Row .i32 w a n c zs) (hm : Row .u8 w a' n' c' ms) (hz : Byt ms) (hn : n ≤ 1099511627776) (hn' : n' ≤ 1099511627776) :
    Calls Try.prog 5 #[.slice a n c, .slice a' n' c'] w fun e w' => e = .returned (.bool true) ∧ Below w.heap.size w w' := by
  cases hall : zs.all scB
  · have E := hide (fun a' c' w' (h' : Row .i32 w' a' n c' zs) => encode_any a' n c' zs w' h' (by omega))
    rw [hall, encS_no hall] at E
    have S := hide (fun a' c' w' (h' : Row .i32 w' a' n c' zs) => scalars_any a' n c' zs w' h' (by omega))
    rw [hall] at S
    go_enter Try.func5, Try.ntmps5
    go_wp2_with fail
    refine (awake_true _).mono ?_
    rintro e w1 ⟨rfl, B1⟩
    have h1 := h.below B1
    have m1 := hm.below B1
    clear h hm
    go_wp2_with fail
    refine (copiedRunes_any _ _ _ _ _ h1 (by omega)).mono ?_
    rintro e w2 ⟨rfl, ho, hb⟩
    obtain ⟨a1, c1, e1, hc⟩ := own_row ho
    simp only [Value.slice.injEq] at e1
    obtain ⟨rfl, _, rfl⟩ := e1
    have B2 := B1.trans (hb.mono B1.size)
    have h2 := h1.below hb
    have m2 := m1.below hb
    clear ho hb B1 h1 m1
    go_wp2_with fail
    refine (unhide E _ _ _ hc).mono ?_
    rintro e w3 ⟨rfl, hb⟩
    have B3 := B2.trans (hb.mono B2.size)
    have h3 := h2.below hb
    have m3 := m2.below hb
    clear hb B2 h2 m2 E hc
    go_wp2_with fail
    refine (unhide S _ _ _ h3).mono ?_
    rintro e w4 ⟨rfl, hb⟩
    have B4 := B3.trans (hb.mono B3.size)
    clear hb B3 h3 S
    go_wp2
    go_ret
    exact ⟨rfl, B4⟩
  · have E := hide (fun a' c' w' (h' : Row .i32 w' a' n c' zs) => encode_any a' n c' zs w' h' (by omega))
    rw [hall, encS_yes hall] at E
    have hap := decZ_app zs ms hall
    have hfl : (strOfNums (zs.flatMap putB)).size = (zs.flatMap putB).length := strOfNums_size _
    have hf4 := flat_len zs zs.length
    rw [flat_all zs _ (Nat.le_refl _), h.len] at hf4
    have hml : ms.length = n' := hm.len
    have hzl : zs.length = n := h.len
    have hadd : strOfNums (zs.flatMap putB) ++ strOfNums ms = strOfNums (zs.flatMap putB ++ ms) := str_add _ _
    have hbz := bytesZ_str (zs.flatMap putB ++ ms) (byt_app (flat_byt zs hall) hz)
    have hsz : (strOfNums (zs.flatMap putB ++ ms)).size = (zs.flatMap putB).length + n' := by rw [strOfNums_size, List.length_append, hml]
    have D1 := hide (fun a1 c1 w' (h' : Row .u8 w' a1 n' c1 ms) => decode_bytes a1 n' c1 ms w' h' hz (by omega))
    have D2 := hide (fun w' => decode_str_some (strOfNums (zs.flatMap putB ++ ms)) w' (by omega) (by rw [hbz, hap]; simp only; rw [List.length_append]; have := decZ_len ms hz; have := decZ_le ms hz; omega))
    rw [hbz, hap] at D2
    have hG2 := decZ_le ms hz
    have hZ2 := decZ_len ms hz
    rw [hml] at hG2
    obtain ⟨Z, hZ⟩ : ∃ Z, Z = (decZ ms).1 := ⟨_, rfl⟩
    obtain ⟨G, hG⟩ : ∃ G, G = (decZ ms).2 := ⟨_, rfl⟩
    rw [← hZ, ← hG] at D1 D2 hZ2
    rw [← hG] at hG2
    simp only at D2
    obtain ⟨M, hM⟩ : ∃ M, M = (zs.flatMap putB).length := ⟨_, rfl⟩
    obtain ⟨T, hT⟩ : ∃ T, T = strOfNums (zs.flatMap putB) := ⟨_, rfl⟩
    obtain ⟨U, hU⟩ : ∃ U, U = strOfNums ms := ⟨_, rfl⟩
    obtain ⟨V, hV⟩ : ∃ V, V = strOfNums (zs.flatMap putB ++ ms) := ⟨_, rfl⟩
    rw [← hT] at E hfl hadd
    rw [← hU, ← hV] at hadd
    rw [← hV] at D2 hsz
    rw [← hM] at D2 hfl hsz hf4
    have hUs : U.size = n' := by rw [hU, strOfNums_size, hml]
    have HU := hide hU
    have HA := hide hadd
    have t1 : (T.size : Int) = (M : Int) := by omega
    have HT1 := hide t1
    have tb : T.size + U.size ≤ 9223372036854775807 := by omega
    have HAL := hide (show (zs ++ Z).length = n + Z.length from by rw [List.length_append, hzl])
    have HZL := hide hzl
    have hrun : ∀ wx, (Op.stringOp .add T U).run Try.prog wx = .ok (.string V) wx := fun wx => by rw [run_string_add_sum wx T U tb, hadd]
    have hMs : M = T.size := by omega
    subst hMs
    obtain ⟨K, hK⟩ : ∃ K, K = T.size + G := ⟨_, rfl⟩
    rw [← hK] at D2
    have kk1 : (K : Int) ≤ (T.size : Int) + (G : Int) := by omega
    have kk2 : (T.size : Int) + (G : Int) ≤ (K : Int) := by omega
    obtain ⟨L, hL⟩ : ∃ L, L = n + Z.length := ⟨_, rfl⟩
    have ll1 : (L : Int) ≤ (n : Int) + (Z.length : Int) := by omega
    have ll2 : (n : Int) + (Z.length : Int) ≤ (L : Int) := by omega
    rw [← hL] at HAL
    rw [unhide HAL] at D2
    clear hap hbz hsz hZ hG hT hU hV hfl t1 hadd hall hml hUs hzl hK hL hM
    go_enter Try.func5, Try.ntmps5
    go_wp2_with fail
    refine (awake_true _).mono ?_
    rintro e w1 ⟨rfl, B1⟩
    have h1 := h.below B1
    have m1 := hm.below B1
    clear h hm
    go_wp2_with fail
    refine (copiedRunes_any _ _ _ _ _ h1 (by omega)).mono ?_
    rintro e w2 ⟨rfl, ho, hb⟩
    obtain ⟨a1, c1, e1, hc⟩ := own_row ho
    simp only [Value.slice.injEq] at e1
    obtain ⟨rfl, _, rfl⟩ := e1
    have B2 := B1.trans (hb.mono B1.size)
    have h2 := h1.below hb
    have m2 := m1.below hb
    clear ho hb B1 h1 m1
    go_wp2_with fail
    refine (unhide E _ _ _ hc).mono ?_
    rintro e w3 ⟨rfl, hb⟩
    have B3 := B2.trans (hb.mono B2.size)
    have h3 := h2.below hb
    have m3 := m2.below hb
    clear hb B2 h2 m2 E hc
    go_wp2_with fail
    refine (copied_any _ _ _ _ _ m3 (by omega)).mono ?_
    rintro e w4 ⟨rfl, ho, hb⟩
    obtain ⟨a1, c1, e1, hc⟩ := own_row ho
    simp only [Value.slice.injEq] at e1
    obtain ⟨rfl, _, rfl⟩ := e1
    have B4 := B3.trans (hb.mono B3.size)
    have h4 := h3.below hb
    have m4 := m3.below hb
    clear ho hb B3 h3 m3
    go_wp2_with fail
    refine (unhide D1 _ _ _ hc).mono ?_
    rintro e w5 ⟨v5, rfl, ho5, hb⟩
    obtain ⟨a5, c5, rfl, hr5⟩ := own_row ho5
    have B5 := B4.trans (hb.mono B4.size)
    have h5 := h4.below hb
    have m5 := m4.below hb
    clear hb B4 h4 m4 D1 ho5 hc
    have hconv := row_string (P := Try.prog) m5 32 9 5 Try.underlying32 Try.underlying5 Try.underlying9
    rw [← unhide HU] at hconv
    go_wp2_with fail
    refine (unhide D2 _).mono ?_
    rintro e w6 ⟨g, cap, rfl, ho6, hb⟩
    have B6 := B5.trans (hb.mono B5.size)
    have h6 := h5.below hb
    have hr6 := hr5.below hb
    clear hb B5 h5 m5 D2 hr5 hconv hrun
    obtain ⟨hcap, hgl, hgc, hrg⟩ := own_some ho6
    have etake : (zs ++ Z).take n = zs := by rw [← unhide HZL]; simp
    by_cases hcn : cap = n
    · have hZ0 : Z.length = 0 := by omega
      have hZn : Z = [] := List.eq_nil_of_length_eq_zero hZ0
      have hLn : L = n := by omega
      subst hcn
      subst hLn
      have HZn := hide hZn
      have hpre := hrg.pre (m := L) (by omega)
      rw [etake] at hpre
      have A1 := hide (alike_eq _ _ _ _ _ _ _ w6 hpre h6 (by omega))
      have A2 := hide (fun wx (hh : Row .i32 wx a5 Z.length c5 Z) => alike_eq (some ⟨g, 0, none⟩) a5 0 Z.length 0 c5 Z wx (by rw [unhide HZn]; exact rowZ rfl (fun e => by cases e)) hh (by omega))
      clear hZ0 hZn etake hpre hrg hgc ho6
      go_wp2_with fail
      refine (unhide A1).mono ?_
      rintro e w7 ⟨rfl, hb⟩
      have B7 := B6.trans (hb.mono B6.size)
      have hr7 := hr6.below hb
      clear hb B6 h6 hr6 A1
      go_wp2_with fail
      refine (unhide A2 _ hr7).mono ?_
      rintro e w8 ⟨rfl, hb⟩
      have B8 := B7.trans (hb.mono B7.size)
      clear hb B7 hr7 A2
      go_wp2
      go_ret
      exact ⟨rfl, B8⟩
    · have hpre := hrg.pre (m := n) (by omega)
      rw [etake] at hpre
      have A1 := hide (alike_eq _ _ _ _ _ _ _ w6 hpre h6 (by omega))
      have hncap : (n : Int) ≤ (cap : Int) := by omega
      have hsub := Row.sub (k := .i32) (w := w6) (b := g) (off := 0) (c := cap) hrg.len hcap (show n ≤ L by omega) (Nat.le_refl _) hgl hgc
      have ecut : cut (zs ++ Z) n L = Z := by unfold cut; rw [show L = n + Z.length by omega, ← unhide HZL]; simp
      rw [ecut, Nat.zero_add] at hsub
      have Hsub := hide hsub
      clear etake hpre hrg hgc ho6 ecut hsub
      go_wp2_with fail
      refine (unhide A1).mono ?_
      rintro e w7 ⟨rfl, hb⟩
      have B7 := B6.trans (hb.mono B6.size)
      have hr7 := hr6.below hb
      have hs7 := (unhide Hsub).below hb
      clear hb B6 h6 hr6 A1 Hsub
      go_wp2_with fail
      refine (alike_eq _ _ _ _ _ _ _ _ hs7 hr7 (by omega)).mono ?_
      rintro e w8 ⟨rfl, hb⟩
      have B8 := B7.trans (hb.mono B7.size)
      clear hb B7 hr7 hs7
      go_wp2
      go_ret
      exact ⟨rfl, B8⟩
end Go.Proofs.Ytidkdnlbecompab.mem
