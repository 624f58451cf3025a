import Derived.Test.YtechaplindbfoaaGreatDoorJbu3
namespace Go.Proofs.YtechaplindbfoaaGreatDoor.jsn
open Go.ChangeShapes Go.WideShapes Go.ChangeAt Go.RowKit
open mem
open vl hiding hide unhide Hid
open ints (hide unhide)
set_option linter.unusedVariables false
set_option linter.unusedSimpArgs false
theorem loadSV (w : World) (b o : Nat) (u : Value) (h : w.cell? ⟨b, o, none⟩ = some u) : (Instr.loadAt 22 (.pointer (some ⟨b, o, none⟩))).run Tryz.prog w = .ok u w := by go_simp
theorem str_ext {S T : ByteArray} (h : S.data.toList = T.data.toList) : S = T := by
  cases S; cases T
  congr 1
  exact Array.toList_inj.1 h
theorem app_listJ (S T : ByteArray) : (S ++ T).data.toList = S.data.toList ++ T.data.toList := by simp
theorem str_end (S : ByteArray) (l : List UInt8) (c : UInt8) (h : S.data.toList = l) : (⟨(l ++ [c]).toArray⟩ : ByteArray) = S ++ ⟨#[c]⟩ := by
  subst h
  apply str_ext
  rw [app_listJ]
/-- the texts' lengths -/
theorem lenL {K : List (ByteArray × Vl)} (hf : ∀ q ∈ K, FlV q.2) (hg : ∀ q ∈ K, okB q = true) : (partsL (txK K) K.length).length ≤ 1100 * (K.map (fun q => q.1.size + wtV q.2)).sum := by
  have e : partsL (jsL NZ (Vls.of (K.map (·.2)))) K.length = partsL (txK K) K.length := partsL_congr fun i hi => by
    have hg : (Vls.of (K.map (·.2))).list[i]? = some (K[i].2) := by rw [of_listV, List.getElem?_map, List.getElem?_eq_getElem hi]; rfl
    rw [jsL_at NZ _ i _ hg]
    unfold txK
    simp [List.getD, List.getElem?_eq_getElem hi]
  have h1 := partsL_len (Vls.of (K.map (·.2))) K.length (by rw [of_listV]; simp) (fun i v hi hv => by
    rw [of_listV, List.getElem?_map, List.getElem?_eq_getElem hi] at hv
    obtain rfl : K[i].2 = v := by simpa using hv
    exact js_len _ (hf _ (List.getElem_mem hi)) (okB_iff.1 (hg _ (List.getElem_mem hi))).1)
  rw [e, of_listV, List.take_of_length_le (by simp), List.map_map] at h1
  have h2 : (K.map (wtV ∘ fun q => q.2)).sum ≤ (K.map (fun q => q.1.size + wtV q.2)).sum := by
    clear h1 e hg hf
    induction K with
    | nil => simp
    | cons x r ih => simp only [List.map_cons, List.sum_cons, Function.comp_def] at ih ⊢; omega
  omega
theorem lenM {K : List (ByteArray × Vl)} (hf : ∀ q ∈ K, FlV q.2) (hg : ∀ q ∈ K, okB q = true) : (partsO (nmK K) (txK K) K.length).length ≤ 1100 * (K.map (fun q => q.1.size + wtV q.2)).sum := by
  have e : partsO (nmAt (Fls.of K)) (jsF NZ (Fls.of K)) K.length = partsO (nmK K) (txK K) K.length := partsO_congr fun i hi => by
    have hg : (Fls.of K).list[i]? = some K[i] := by rw [of_listF, List.getElem?_eq_getElem hi]
    rw [jsF_at NZ _ i _ hg, nmAt_at _ hg]
    unfold txK nmK
    simp [List.getD, List.getElem?_eq_getElem hi]
  have h1 := partsO_len (Fls.of K) K.length (by rw [of_listF]; exact Nat.le_refl _) (fun i q hi hv => by
    rw [of_listF, List.getElem?_eq_getElem hi] at hv
    obtain rfl : K[i] = q := by simpa using hv
    exact js_len _ (hf _ (List.getElem_mem hi)) (okB_iff.1 (hg _ (List.getElem_mem hi))).1)
  rw [e, of_listF, List.take_of_length_le (Nat.le_refl _)] at h1
  exact h1
theorem runM10 {w0 : World} (nm : ByteArray) {v : Vl} {us : List Value} (hv : VlC w0 v us) {a : Act} {o : Oper} (x y : Operand) (ho : o.op = .build 45 #[(0, x), (1, y)]) (hx : a.eval x = .string nm) (hy : a.eval y = .agg us.toArray) (w : World) : (execOp a.eval o).run Tryz.prog w = .ok (.value (.agg (Value.string nm :: us).toArray)) w := by
  obtain ⟨kd, b, n, f, tx, ty, its, fls⟩ := v
  unfold VlC at hv
  obtain ⟨ai, ni, ci, af, nf, cf, rfl, -⟩ := hv
  generalize a.eval = ev at *
  unfold execOp
  simp only [ho]
  go_simp
set_option maxHeartbeats 16000000 in
set_option maxRecDepth 100000 in
theorem law_builds (a0 : Option Addr) (n0 c0 : Nat) (its : Vls) (a1 : Option Addr) (n1 c1 : Nat) (Ns : List ByteArray) (w : World) (hE : fto.Fx w) (hv : VlsAt w its a0 n0) (hfl : FlI its) (hwt : wtI its ≤ 1048576) (hn0 : n0 ≤ 1048576) (hc0 : n0 ≤ c0) (hx : Txj w a1 n1 Ns) (hn1 : n1 ≤ 1048576) (hc1 : n1 ≤ c1) (hws : (Ns.map (·.size)).sum ≤ 1048576) :
    Calls Tryz.prog 7 #[.slice a0 n0 c0, .slice a1 n1 c1] w fun e w' => e = .returned (.bool true) ∧ Below w.heap.size w w' := by
  have hsf := storeF
  obtain ⟨Z, hZ⟩ : ∃ Z, Z = Ns.zip its.list := ⟨_, rfl⟩
  have hl0 := VlsAt.len its _ _ hv
  have hl1 := hx.len
  have hZg : ∀ k nm v, Ns[k]? = some nm → its.list[k]? = some v → Z[k]? = some (nm, v) := fun k nm v h1 h2 => by
    rw [hZ, List.getElem?_zip_eq_some]
    exact ⟨h1, h2⟩
  have hZs : (Z.map (fun q => q.1.size + wtV q.2)).sum ≤ 2097152 := by
    have h1 := sum_zip Ns its.list
    rw [← hZ, ← wtI_sum] at h1
    omega
  have hZf : ∀ q ∈ Z, FlV q.2 := fun q hq => by
    rw [hZ] at hq
    exact hfl.all q.2 (List.of_mem_zip hq).2
  have hZl : Z.length = min n1 n0 := by rw [hZ, List.length_zip, hl0, hl1]
  have HX := hide (And.intro hv (And.intro hx (And.intro hfl (And.intro hZg (And.intro hZs (And.intro hZf hZl))))))
  clear hZg hZs hZf hZl hl0 hl1 hv hx hfl hwt hws hZ
  have KK : ∀ k, let K := (Z.take k).filter okB; (∀ q ∈ K, FlV q.2) ∧ (∀ q ∈ K, okB q = true) ∧ (K.map (fun q => q.1.size + wtV q.2)).sum ≤ 2097152 ∧ K.length ≤ 1048576 := fun k => by
    have hm : ∀ q ∈ (Z.take k).filter okB, q ∈ Z ∧ okB q = true := fun q hq => by
      rw [List.mem_filter] at hq
      exact ⟨List.mem_of_mem_take hq.1, hq.2⟩
    refine ⟨fun q hq => (unhide HX).2.2.2.2.2.1 q (hm q hq).1, fun q hq => (hm q hq).2, ?_, ?_⟩
    · have h1 := sum_filter (fun q : ByteArray × Vl => q.1.size + wtV q.2) okB (Z.take k)
      have h2 := sum_all (fun q : ByteArray × Vl => q.1.size + wtV q.2) Z k
      have h3 := (unhide HX).2.2.2.2.1
      omega
    · have h1 := List.length_filter_le okB (Z.take k)
      have h2 := List.length_take_le k Z
      have h3 := (unhide HX).2.2.2.2.2.2
      have : (Z.take k).length ≤ Z.length := by rw [List.length_take]; omega
      omega
  have HK := hide KK
  clear KK
  go_enter Tryz.func7, Tryz.ntmps7
  go_wp2_with fail
  refine (awake_ok w).mono ?_
  rintro e w1 ⟨rfl, b1⟩
  obtain ⟨W, eW⟩ : ∃ W, W = ((w1.alloc (.cells #[.int .i64 5, .bool false, .int .i64 0, .float .f64 0, .string { data := #[] }, .string { data := #[] }, .slice none 0 0, .slice none 0 0] 29)).alloc (.cells #[.int .i64 6, .bool false, .int .i64 0, .float .f64 0, .string { data := #[] }, .string { data := #[] }, .slice none 0 0, .slice none 0 0] 29)) := ⟨_, rfl⟩
  have hS0 : BdS w1 (fun _ => False) w1 [] [] (.slice none 0 0) (.slice none 0 0) (.slice none 0 0) (.slice none 0 0) W := by
    rw [eW]
    exact BdS.new w1
  have EW := hide eW
  have E1 := hide (hE.below b1)
  have HB1 := hide b1
  have s1 := b1.size
  clear eW hE b1
  go_wp2_with fail
  rw [← unhide EW]
  clear EW
  go_loopw [7, 8, 9] (fun v7 v8 v9 wr => ∃ (k : Nat) (S1 S2 : ByteArray) (sl sm : Value), k ≤ min n1 n0 ∧ v9 = .int .i64 k ∧ v7 = .string S1 ∧ v8 = .string S2 ∧ Hid (S1.data.toList = [91] ++ partsL (txK ((Z.take k).filter okB)) ((Z.take k).filter okB).length) ∧ Hid (S2.data.toList = [123] ++ partsO (nmK ((Z.take k).filter okB)) (txK ((Z.take k).filter okB)) ((Z.take k).filter okB).length) ∧ Hid (BdS w1 (fun _ => False) w1 (((Z.take k).filter okB).map (·.2)) ((Z.take k).filter okB) sl sm sl sm wr)) (fun _ _ v9 _ => n0 - (intOf v9).toNat)
  case atStart => exact ⟨0, ⟨#[91]⟩, ⟨#[123]⟩, .slice none 0 0, .slice none 0 0, Nat.zero_le _, rfl, rfl, rfl, hide (by simp [partsL]), hide (by simp [partsO]), hide (by simpa using hS0)⟩
  case round =>
    clear hS0
    obtain ⟨k, S1, S2, sl, sm, hk, rfl, rfl, rfl, hT1, hT2, hS⟩ := hrel
    obtain ⟨K, eK⟩ : ∃ K, K = (Z.take k).filter okB := ⟨_, rfl⟩
    have hKK := hide (by have := unhide HK k; rw [← eK] at this; exact this : (∀ q ∈ K, FlV q.2) ∧ (∀ q ∈ K, okB q = true) ∧ (K.map (fun q => q.1.size + wtV q.2)).sum ≤ 2097152 ∧ K.length ≤ 1048576)
    rw [← eK] at hT1 hT2 hS
    have EK := hide eK
    clear eK
    have z1 : S1.size ≤ 2306867201 := by
      have h1 := lenL (unhide hKK).1 (unhide hKK).2.1
      have h2 := congrArg List.length (unhide hT1)
      rw [size_list, List.length_append] at h2
      simp only [List.length_cons, List.length_nil] at h2
      have h3 := (unhide hKK).2.2.1
      omega
    have z2 : S2.size ≤ 2306867201 := by
      have h1 := lenM (unhide hKK).1 (unhide hKK).2.1
      have h2 := congrArg List.length (unhide hT2)
      rw [size_list, List.length_append] at h2
      simp only [List.length_cons, List.length_nil] at h2
      have h3 := (unhide hKK).2.2.1
      omega
    by_cases hlt : k < n0 ∧ k < n1
    · obtain ⟨hk0, hk1⟩ := hlt
      have ki0 : (k : Int) < (n0 : Int) := by omega
      have ki1 : (k : Int) < (n1 : Int) := by omega
      obtain ⟨p, off, v, us, rfl, hg, hr, hv⟩ := VlsAt.get its _ n0 (unhide HX).1 k hk0
      obtain ⟨b', off', rfl, hbl, hnc⟩ : ∃ b off, a1 = some ⟨b, off, none⟩ ∧ b < w.heap.size ∧ ∀ i s, Ns[i]? = some s → w.cell? ⟨b, off + i, none⟩ = some (.string s) ∧ s.size ≤ maxLen := by
        rcases (unhide HX).2.1.at_ with h | h
        · omega
        · exact h
      obtain ⟨nm, hnm⟩ : ∃ nm, Ns[k]? = some nm := ⟨Ns[k]'(by rw [(unhide HX).2.1.len]; exact hk1), List.getElem?_eq_getElem (by rw [(unhide HX).2.1.len]; exact hk1)⟩
      obtain ⟨hnc0, hnz⟩ := hnc k nm hnm
      have hzk := (unhide HX).2.2.2.1 k nm v hnm hg
      have hpl : p < w.heap.size := by
        obtain ⟨u, hu⟩ : ∃ u, us[0]? = some u := ⟨us[0]'(by rw [hv.cells]; decide), List.getElem?_eq_getElem (by rw [hv.cells]; decide)⟩
        exact World.block_lt_of_cell? w _ (hr 0 u hu)
      have hfv := hide ((unhide HX).2.2.1.all v (List.mem_of_getElem? hg))
      have hwv : nm.size + wtV v ≤ 2097152 := by
        have h1 := sum_snoc (fun q : ByteArray × Vl => q.1.size + wtV q.2) Z k _ hzk
        have h2 := (unhide HX).2.2.2.2.1
        simp only at h1
        omega
      have hbelR : Below w.heap.size w wr := (unhide HB1).trans ((unhide hS).bel.mono s1)
      have hv1 := hide (VlC.below (unhide HB1) v us hv)
      have hr' := hide (Row8.below hr hbelR)
      have hrw1 := hide (Row8.below hr (unhide HB1))
      have hnw1 := hide (keepC (unhide HB1) hbl hnc0)
      have hn1c := hide (keepC hbelR hbl hnc0)
      have hvr := hide (VlC.below hbelR v us hv)
      have iu := hide (show (Tryz.prog.info? 29).map (·.size) = some us.length by rw [hv.cells]; exact infoV)
      have E2 := hide ((unhide E1).below (unhide hS).bel)
      have ZK := hide (show (Z.take (k + 1)).filter okB = if okB (nm, v) = true then K ++ [(nm, v)] else K by
        rw [List.take_add_one, hzk, List.filter_append, ← unhide EK]
        simp only [Option.toList_some, List.filter_cons, List.filter_nil]
        split <;> simp)
      clear hr hv hg hnc hnc0 hnm hzk hbelR
      go_wp2_with (first
        | refine wpList_load_mid (by rfl) 29 _ (by rfl) p (off + k * 8) (by rfl) us _ (unhide hr') Tryz.underlying29 (by rfl) (unhide iu) ?_)
      refine (write_any v us wr (unhide E2) (unhide hvr) (unhide hfv) (by omega)).mono ?_
      generalize hjf : jfE v = E
      rintro e w2 ⟨ra, rfl, ho, b2⟩
      obtain ⟨aa, ca, rfl, ct⟩ := own_textK ho rfl
      have hla : E = 0 → (wv v).length ≤ 2306867200 := fun h => by
        unfold wv
        rw [hjf, if_pos h]
        have := js_len v (unhide hfv) (by rw [hjf, h])
        omega
      have hwe : E = 0 → wv v = js NZ v := fun h => by unfold wv; rw [hjf, if_pos h]
      have CT := hide ct
      have JF := hide hjf
      have HW2 := hide (And.intro hla hwe)
      have hS2 := hide ((unhide hS).below b2)
      have sR := (unhide hS).siz
      have sR2 := b2.size
      have hn2c := hide (keepC b2 (show b' < wr.heap.size by omega) (unhide hn1c))
      have hS2w := hide (fun (w3 : World) (b3 : Below w2.heap.size w2 w3) => (unhide hS).with b2 b3)
      have hr2 := hide (Row8.below (unhide hr') b2)
      clear ct hjf hla hwe ho hvr hr' hn1c hS E2 b2
      have cn := unhide hn2c
      go_wp2_with fail
      refine (text_any nm w2 (by unfold maxLen at hnz; omega)).mono ?_
      rintro e w3 ⟨rfl, b3⟩
      have hS3 := hide ((unhide hS2).below b3)
      have hS3w := hide (unhide hS2w w3 b3)
      have hn3c := hide (keepC b3 (show b' < w2.heap.size by omega) (unhide hn2c))
      have hr3 := hide (Row8.below (unhide hr2) b3)
      clear cn hn2c hr2 hS2
      obtain ⟨X, hXe⟩ : ∃ X, X = txS nm := ⟨_, rfl⟩
      obtain ⟨F, hFe⟩ : ∃ F, F = txE nm := ⟨_, rfl⟩
      rw [← hXe, ← hFe]
      by_cases hgood : okB (nm, v) = true
      · obtain ⟨g1, g2⟩ := okB_iff.1 hgood
        simp only at g1 g2
        have hE0 : E = 0 := by rw [← unhide JF]; exact g1
        subst hE0
        have hF0 : F = 0 := by rw [hFe]; unfold txE; rw [if_pos g2]
        subst hF0
        have hXl : X.data.toList = txt nm.data.toList := by rw [hXe]; unfold txS; rw [if_pos g2]
        have zX : X.size ≤ 12582914 := by
          have h1 := txt_le nm
          have h2 := congrArg List.length hXl
          rw [size_list] at h2
          omega
        obtain ⟨hla, hwe⟩ := unhide HW2
        have hla := hla rfl
        have hwe := hwe rfl
        rw [hwe] at CT hla ⊢
        have ZK1 := hide (show (Z.take (k + 1)).filter okB = K ++ [(nm, v)] by rw [unhide ZK, if_pos hgood])
        obtain ⟨Y, hY⟩ : ∃ Y : ByteArray, Y = ⟨(js NZ v).toArray⟩ := ⟨_, rfl⟩
        have hYl : Y.data.toList = js NZ v := by rw [hY]
        have zY : Y.size ≤ 2306867200 := by
          have h2 := congrArg List.length hYl
          rw [size_list] at h2
          omega
        rw [← hY] at CT
        have HY := hide hYl
        have HXl := hide hXl
        clear hla hwe hY hYl hXl hXe hFe g1 g2 hgood ZK HW2 JF
        generalize (js NZ v).length = lw at *
        have kK := (unhide hKK).2.2.2
        have hKl : (K.map (·.2)).length = K.length := by simp
        obtain ⟨aj0, nj0, cj0, hsl0, hnj0⟩ : ∃ aj nj cj, sl = .slice aj nj cj ∧ nj = K.length := by
          have hh := (unhide hS3).gl
          obtain ⟨xss, h1, -⟩ := hh
          rw [hKl] at h1
          rcases h1.2 with ⟨h, h0⟩ | ⟨g, cap, cur, h, -⟩
          · exact ⟨none, 0, 0, h, h0.symm⟩
          · exact ⟨_, _, _, h, rfl⟩
        have hsl1 := hide hsl0
        subst hsl0
        have c6 : w3.cell? ⟨w1.heap.size, 6, none⟩ = some (.slice aj0 nj0 cj0) := (unhide hS3).cl 6 _ rfl
        have c7 : w3.cell? ⟨w1.heap.size + 1, 7, none⟩ = some sm := (unhide hS3).cm 7 _ rfl
        have hbd := hide (buildV (unhide hv1) ({ w3 with drawn := w3.drawn + 1 } : World))
        have s3 := (unhide hS3).siz
        by_cases hnil : nj0 = 0
        · have ck : ¬ (0 : Int) < (nj0 : Int) := by omega
          have hcom : com K.length = [] := by unfold com; rw [if_pos (by omega)]
          have hcom := hide hcom
          subst hnil
          clear hnj0 ck
          go_wp2_with fail
          have hbase := (unhide hS3w).below ((Below.refl _ w3).drew)
          have hS0 : Below w1.heap.size w1 ({ w3 with drawn := w3.drawn + 1 } : World) := hbase.bel
          obtain ⟨X1, eX⟩ : ∃ X1, X1 = ({ w3 with drawn := w3.drawn + 1 } : World).alloc (.cells us.toArray 29) := ⟨_, rfl⟩
          have hSX : Below w1.heap.size w1 X1 := by rw [eX]; exact hS0.alloc (show w1.heap.size ≤ w3.heap.size by omega) _
          have bX : Below w3.heap.size w3 X1 := by rw [eX]; exact (Below.refl w3.heap.size w3).drew.alloc (Nat.le_refl _) _
          have c6x := keepC bX (show w1.heap.size < w3.heap.size by omega) c6
          clear bX
          refine wp_region_noPanic ?_
          refine wp_region_held (S := fun w' => Below w1.heap.size w1 w') mixed ?_
          refine wpAnyH_take (i := 0) (v := ?v1) rfl (by kernel_rfl) (by kernel_rfl) (by kernel_rfl) (fun _ _ _ h => h) (Or.inl ⟨by rfl, ?hy1⟩) hS0 ?_
          case hy1 => (intro w' hw';  go_simp; try with_reducible rfl)
          simp only [List.getElem_toArray, List.getElem_cons_zero, List.getElem_cons_succ, Act.put, List.setIfInBounds_toArray, List.set_cons_zero, List.set_cons_succ]
          refine wpAnyH_take (i := 2) (v := ?v2) rfl (by kernel_rfl) (by kernel_rfl) (by kernel_rfl) (fun _ _ _ h => h) (Or.inl ⟨by rfl, ?hy2⟩) hS0 ?_
          case hy2 => (intro w' hw';  go_simp; try with_reducible rfl)
          simp only [List.getElem_toArray, List.getElem_cons_zero, List.getElem_cons_succ, Act.put, List.setIfInBounds_toArray, List.set_cons_zero, List.set_cons_succ]
          refine wpAnyH_take (i := 3) (v := ?v3) rfl (by kernel_rfl) (by kernel_rfl) (by kernel_rfl) (fun _ _ _ h => h) (Or.inl ⟨by rfl, ?hy3⟩) hS0 ?_
          case hy3 => (intro w' hw';  go_simp; try with_reducible rfl)
          simp only [List.getElem_toArray, List.getElem_cons_zero, List.getElem_cons_succ, Act.put, List.setIfInBounds_toArray, List.set_cons_zero, List.set_cons_succ]
          refine wpAnyH_take (i := 4) (v := ?v4) rfl (by kernel_rfl) (by kernel_rfl) (by kernel_rfl) (fun _ _ _ h => h) (Or.inl ⟨by rfl, ?hy4⟩) hS0 ?_
          case hy4 => (intro w' hw';  go_simp; try with_reducible rfl)
          simp only [List.getElem_toArray, List.getElem_cons_zero, List.getElem_cons_succ, Act.put, List.setIfInBounds_toArray, List.set_cons_zero, List.set_cons_succ]
          refine wpAnyH_take (i := 5) rfl (by kernel_rfl) (by kernel_rfl) (by kernel_rfl) (fun _ _ _ h => h) (yieldsIf_load_mid (by rfl) 29 _ (by rfl) p (off + k * 8) (by rfl) us _ (fun w' hw' => range_below (unhide hrw1) hw' (show p < w1.heap.size by omega)) Tryz.underlying29 (by rfl) (unhide iu)) hS0 ?_
          simp only [List.getElem_toArray, List.getElem_cons_zero, List.getElem_cons_succ, Act.put, List.setIfInBounds_toArray, List.set_cons_zero, List.set_cons_succ]
          refine rgn.two (i := 1) (j := 6) _ _ rfl rfl (by kernel_rfl) (by rfl) (by rfl) ?_ ?_
          · simp only [List.getElem_toArray, List.getElem_cons_zero, List.getElem_cons_succ, Act.put, List.setIfInBounds_toArray, List.set_cons_zero, List.set_cons_succ]
            clear c6x
            go_wp2_with fail
            refine ⟨hS0, ?_⟩
            refine rgn.one (i := 6) _ rfl (by kernel_rfl) (by rfl) ?_
            simp only [List.getElem_toArray, List.getElem_cons_zero, List.getElem_cons_succ, Act.put, List.setIfInBounds_toArray, List.set_cons_zero, List.set_cons_succ]
            refine wpO_buildOne 22 _ (by rfl) (.agg us.toArray) _ (by rfl) (unhide hbd) ?_
            rw [← eX]
            refine ⟨hSX, ?_⟩
            simp only [List.getElem_toArray, List.getElem_cons_zero, List.getElem_cons_succ, Act.put, List.setIfInBounds_toArray, List.set_cons_zero, List.set_cons_succ]
            refine rgn.one (i := 7) _ rfl (by kernel_rfl) (by rfl) ?_
            simp only [List.getElem_toArray, List.getElem_cons_zero, List.getElem_cons_succ, Act.put, List.setIfInBounds_toArray, List.set_cons_zero, List.set_cons_succ]
            rw [eX]
            refine wpO_bl hbase _ _ (by rfl) (by rfl) v us (unhide hv1) _ rfl (by rfl) (by rw [hKl]; omega) ?_
            intro g nn cc w4 hB4 hnn
            clear hnn
            have e6 : w4.cell? ⟨w1.heap.size, 6, none⟩ = some (.slice aj0 0 cj0) := hB4.cl 6 _ rfl
            have f6 : w4.frozen? ⟨w1.heap.size, 6, none⟩ = false := (hB4.tl 6 (by omega)).2
            refine ⟨hB4.bel, ?_⟩
            have hS0 := hB4.bel
            simp only [List.getElem_toArray, List.getElem_cons_zero, List.getElem_cons_succ, Act.put, List.setIfInBounds_toArray, List.set_cons_zero, List.set_cons_succ]
            refine rgn.take (i := 8) _ (.pointer (some ⟨w1.heap.size, 6, none⟩)) rfl (by kernel_rfl) (by kernel_rfl) (by kernel_rfl) (fun _ _ _ h => h) (by rfl) hS0 (fun w' hw' => by go_simp) ?_
            simp only [List.getElem_toArray, List.getElem_cons_zero, List.getElem_cons_succ, Act.put, List.setIfInBounds_toArray, List.set_cons_zero, List.set_cons_succ]
            refine rgn.one (i := 9) _ rfl (by kernel_rfl) (by rfl) ?_
            simp only [List.getElem_toArray, List.getElem_cons_zero, List.getElem_cons_succ, Act.put, List.setIfInBounds_toArray, List.set_cons_zero, List.set_cons_succ]
            have hB5 := hide (hB4.putL (.slice (some ⟨g, 0, none⟩) nn cc))
            clear hB4 hS0 hbase hSX eX
            go_wp2_with fail
            refine ⟨(unhide hB5).bel, ?_⟩
            refine wpAnyH_done (by kernel_rfl) ?_ _
            refine NoPanic.normal ?_
            obtain ⟨w5, e5⟩ : ∃ w5, w5 = w4.setCells w1.heap.size 6 [.slice (some ⟨g, 0, none⟩) nn cc] := ⟨_, rfl⟩
            rw [← e5] at hB5
            first | rw [← e5] | rw [show w4.setCell ⟨w1.heap.size, 6, none⟩ (.slice (some ⟨g, 0, none⟩) nn cc) = w5 from e5.symm]
            clear e5 e6 f6
            have c7' : w5.cell? ⟨w1.heap.size + 1, 7, none⟩ = some sm := (unhide hB5).cm 7 _ rfl
            have hbase2 := (unhide hB5).below ((Below.refl _ w5).drew)
            have hbd2 := buildM nm (unhide hv1) ({ w5 with drawn := w5.drawn + 1 } : World)
            have s5 := (unhide hB5).siz
            have hS0 : Below w1.heap.size w1 ({ w5 with drawn := w5.drawn + 1 } : World) := hbase2.bel
            obtain ⟨X2, eX2⟩ : ∃ X2, X2 = ({ w5 with drawn := w5.drawn + 1 } : World).alloc (.cells (Value.string nm :: us).toArray 45) := ⟨_, rfl⟩
            have hSX2 : Below w1.heap.size w1 X2 := by rw [eX2]; exact hS0.alloc (show w1.heap.size ≤ w5.heap.size by omega) _
            have bX2 : Below w5.heap.size w5 X2 := by rw [eX2]; exact (Below.refl w5.heap.size w5).drew.alloc (Nat.le_refl _) _
            have c7x := keepC bX2 (show w1.heap.size + 1 < w5.heap.size by omega) c7'
            go_wp2_with fail
            refine wp_region_noPanic ?_
            refine wp_region_held (S := fun w' => Below w1.heap.size w1 w') mixed ?_
            refine wpAnyH_take (i := 0) (v := ?v5) rfl (by kernel_rfl) (by kernel_rfl) (by kernel_rfl) (fun _ _ _ h => h) (Or.inl ⟨by rfl, ?hy5⟩) hS0 ?_
            case hy5 => (intro w' hw';  go_simp; try with_reducible rfl)
            simp only [List.getElem_toArray, List.getElem_cons_zero, List.getElem_cons_succ, Act.put, List.setIfInBounds_toArray, List.set_cons_zero, List.set_cons_succ]
            refine wpAnyH_take (i := 2) (v := ?v6) rfl (by kernel_rfl) (by kernel_rfl) (by kernel_rfl) (fun _ _ _ h => h) (Or.inl ⟨by rfl, ?hy6⟩) hS0 ?_
            case hy6 => (intro w' hw'; have cn := (hw'.cell (p := ⟨b', off' + k, none⟩) (show b' < w1.heap.size by omega)).trans (unhide hnw1); go_simp; try with_reducible rfl)
            simp only [List.getElem_toArray, List.getElem_cons_zero, List.getElem_cons_succ, Act.put, List.setIfInBounds_toArray, List.set_cons_zero, List.set_cons_succ]
            refine wpAnyH_take (i := 3) (v := ?v7) rfl (by kernel_rfl) (by kernel_rfl) (by kernel_rfl) (fun _ _ _ h => h) (Or.inl ⟨by rfl, ?hy7⟩) hS0 ?_
            case hy7 => (intro w' hw'; have cn := (hw'.cell (p := ⟨b', off' + k, none⟩) (show b' < w1.heap.size by omega)).trans (unhide hnw1); go_simp; try with_reducible rfl)
            simp only [List.getElem_toArray, List.getElem_cons_zero, List.getElem_cons_succ, Act.put, List.setIfInBounds_toArray, List.set_cons_zero, List.set_cons_succ]
            refine wpAnyH_take (i := 4) (v := ?v8) rfl (by kernel_rfl) (by kernel_rfl) (by kernel_rfl) (fun _ _ _ h => h) (Or.inl ⟨by rfl, ?hy8⟩) hS0 ?_
            case hy8 => (intro w' hw'; have cn := (hw'.cell (p := ⟨b', off' + k, none⟩) (show b' < w1.heap.size by omega)).trans (unhide hnw1); go_simp; try with_reducible rfl)
            simp only [List.getElem_toArray, List.getElem_cons_zero, List.getElem_cons_succ, Act.put, List.setIfInBounds_toArray, List.set_cons_zero, List.set_cons_succ]
            refine wpAnyH_take (i := 5) (v := ?v9) rfl (by kernel_rfl) (by kernel_rfl) (by kernel_rfl) (fun _ _ _ h => h) (Or.inl ⟨by rfl, ?hy9⟩) hS0 ?_
            case hy9 => (intro w' hw'; have cn := (hw'.cell (p := ⟨b', off' + k, none⟩) (show b' < w1.heap.size by omega)).trans (unhide hnw1); go_simp; try with_reducible rfl)
            simp only [List.getElem_toArray, List.getElem_cons_zero, List.getElem_cons_succ, Act.put, List.setIfInBounds_toArray, List.set_cons_zero, List.set_cons_succ]
            refine wpAnyH_take (i := 6) (v := ?v10) rfl (by kernel_rfl) (by kernel_rfl) (by kernel_rfl) (fun _ _ _ h => h) (Or.inl ⟨by rfl, ?hy10⟩) hS0 ?_
            case hy10 => (intro w' hw';  go_simp; try with_reducible rfl)
            simp only [List.getElem_toArray, List.getElem_cons_zero, List.getElem_cons_succ, Act.put, List.setIfInBounds_toArray, List.set_cons_zero, List.set_cons_succ]
            refine wpAnyH_take (i := 7) (v := ?v11) rfl (by kernel_rfl) (by kernel_rfl) (by kernel_rfl) (fun _ _ _ h => h) (Or.inl ⟨by rfl, ?hy11⟩) hS0 ?_
            case hy11 => (intro w' hw';  go_simp; try with_reducible rfl)
            simp only [List.getElem_toArray, List.getElem_cons_zero, List.getElem_cons_succ, Act.put, List.setIfInBounds_toArray, List.set_cons_zero, List.set_cons_succ]
            refine wpAnyH_take (i := 8) (v := ?v12) rfl (by kernel_rfl) (by kernel_rfl) (by kernel_rfl) (fun _ _ _ h => h) (Or.inl ⟨by rfl, ?hy12⟩) hS0 ?_
            case hy12 => (intro w' hw';  go_simp; try with_reducible rfl)
            simp only [List.getElem_toArray, List.getElem_cons_zero, List.getElem_cons_succ, Act.put, List.setIfInBounds_toArray, List.set_cons_zero, List.set_cons_succ]
            refine wpAnyH_take (i := 9) rfl (by kernel_rfl) (by kernel_rfl) (by kernel_rfl) (fun _ _ _ h => h) (yieldsIf_load_mid (by rfl) 29 _ (by rfl) p (off + k * 8) (by rfl) us _ (fun w' hw' => range_below (unhide hrw1) hw' (show p < w1.heap.size by omega)) Tryz.underlying29 (by rfl) (unhide iu)) hS0 ?_
            simp only [List.getElem_toArray, List.getElem_cons_zero, List.getElem_cons_succ, Act.put, List.setIfInBounds_toArray, List.set_cons_zero, List.set_cons_succ]
            refine rgn.take (i := 10) _ (.agg (Value.string nm :: us).toArray) rfl (by kernel_rfl) (by kernel_rfl) (by kernel_rfl) (fun _ _ _ h => h) (by rfl) hS0 (fun w' hw' => runM10 nm (unhide hv1) _ _ (by rfl) (by rfl) (by rfl) w') ?_
            simp only [List.getElem_toArray, List.getElem_cons_zero, List.getElem_cons_succ, Act.put, List.setIfInBounds_toArray, List.set_cons_zero, List.set_cons_succ]
            refine rgn.two (i := 1) (j := 11) _ _ rfl rfl (by kernel_rfl) (by rfl) (by rfl) ?_ ?_
            · simp only [List.getElem_toArray, List.getElem_cons_zero, List.getElem_cons_succ, Act.put, List.setIfInBounds_toArray, List.set_cons_zero, List.set_cons_succ]
              clear c7x
              go_wp2_with fail
              refine ⟨hS0, ?_⟩
              refine rgn.one (i := 11) _ rfl (by kernel_rfl) (by rfl) ?_
              simp only [List.getElem_toArray, List.getElem_cons_zero, List.getElem_cons_succ, Act.put, List.setIfInBounds_toArray, List.set_cons_zero, List.set_cons_succ]
              refine wpO_buildOne 27 _ (by rfl) (.agg (Value.string nm :: us).toArray) _ (by rfl) hbd2 ?_
              rw [← eX2]
              refine ⟨hSX2, ?_⟩
              simp only [List.getElem_toArray, List.getElem_cons_zero, List.getElem_cons_succ, Act.put, List.setIfInBounds_toArray, List.set_cons_zero, List.set_cons_succ]
              refine rgn.one (i := 12) _ rfl (by kernel_rfl) (by rfl) ?_
              simp only [List.getElem_toArray, List.getElem_cons_zero, List.getElem_cons_succ, Act.put, List.setIfInBounds_toArray, List.set_cons_zero, List.set_cons_succ]
              rw [eX2]
              refine wpO_bm hbase2 _ _ (by rfl) (by rfl) (nm, v) us hnz (unhide hv1) _ rfl (by rfl) (by omega) ?_
              intro g2 nn2 cc2 w6 hB6 hnn2
              clear hnn2
              have e7 : w6.cell? ⟨w1.heap.size + 1, 7, none⟩ = some sm := hB6.cm 7 _ rfl
              have f7 : w6.frozen? ⟨w1.heap.size + 1, 7, none⟩ = false := (hB6.tm 7 (by omega)).2
              refine ⟨hB6.bel, ?_⟩
              have hS0 := hB6.bel
              simp only [List.getElem_toArray, List.getElem_cons_zero, List.getElem_cons_succ, Act.put, List.setIfInBounds_toArray, List.set_cons_zero, List.set_cons_succ]
              refine rgn.take (i := 13) _ (.pointer (some ⟨w1.heap.size + 1, 7, none⟩)) rfl (by kernel_rfl) (by kernel_rfl) (by kernel_rfl) (fun _ _ _ h => h) (by rfl) hS0 (fun w' hw' => by go_simp) ?_
              simp only [List.getElem_toArray, List.getElem_cons_zero, List.getElem_cons_succ, Act.put, List.setIfInBounds_toArray, List.set_cons_zero, List.set_cons_succ]
              refine rgn.one (i := 14) _ rfl (by kernel_rfl) (by rfl) ?_
              simp only [List.getElem_toArray, List.getElem_cons_zero, List.getElem_cons_succ, Act.put, List.setIfInBounds_toArray, List.set_cons_zero, List.set_cons_succ]
              have hB7 := hide (hB6.putM (.slice (some ⟨g2, 0, none⟩) nn2 cc2))
              clear hB6 hS0 hbase2 hSX2 eX2 bX2 hbd2
              go_wp2_with fail
              refine ⟨(unhide hB7).bel, ?_⟩
              refine wpAnyH_done (by kernel_rfl) ?_ _
              refine NoPanic.normal ?_
              obtain ⟨w7, e7'⟩ : ∃ w7, w7 = w6.setCells (w1.heap.size + 1) 7 [.slice (some ⟨g2, 0, none⟩) nn2 cc2] := ⟨_, rfl⟩
              rw [← e7'] at hB7
              first | rw [← e7'] | rw [show w6.setCell ⟨w1.heap.size + 1, 7, none⟩ (.slice (some ⟨g2, 0, none⟩) nn2 cc2) = w7 from e7'.symm]
              clear e7' e7 f7
              have cv : (convert 34 9 (.slice aa lw ca)).run Tryz.prog w7 = .ok (.string Y) w7 := unhide CT w7 (fun b h1 h2 => (unhide hB7).zeq b ⟨h1, h2⟩)
              have hB8 := hide ((unhide hB7).plain)
              clear hB7 hB5 CT c7'
              go_wp2
              refine ⟨⟨k + 1, _, _, .slice (some ⟨g, 0, none⟩) nn cc, .slice (some ⟨g2, 0, none⟩) nn2 cc2, by omega, by go_num, rfl, rfl, ?_, ?_, ?_⟩, by simp only [intOf]; omega⟩
              · rw [unhide ZK1, txK_snoc, unhide hcom]
                refine hide ?_
                rw [app_listJ, unhide hT1, unhide HY]
                simp only [List.append_assoc, List.nil_append, List.append_nil, List.cons_append]
              · rw [unhide ZK1, nmK_snoc, unhide hcom]
                refine hide ?_
                rw [app_listJ, app_listJ, app_listJ, unhide hT2, unhide HXl, unhide HY]
                simp only [List.append_assoc, List.nil_append, List.append_nil, List.cons_append]
              · rw [unhide ZK1, List.map_append]
                exact hB8
            · simp only [List.getElem_toArray, List.getElem_cons_zero, List.getElem_cons_succ, Act.put, List.setIfInBounds_toArray, List.set_cons_zero, List.set_cons_succ]
              refine wpO_buildOne 27 _ (by rfl) (.agg (Value.string nm :: us).toArray) _ (by rfl) hbd2 ?_
              rw [← eX2]
              refine ⟨hSX2, ?_⟩
              simp only [List.getElem_toArray, List.getElem_cons_zero, List.getElem_cons_succ, Act.put, List.setIfInBounds_toArray, List.set_cons_zero, List.set_cons_succ]
              refine rgn.one (i := 1) _ rfl (by kernel_rfl) (by rfl) ?_
              simp only [List.getElem_toArray, List.getElem_cons_zero, List.getElem_cons_succ, Act.put, List.setIfInBounds_toArray, List.set_cons_zero, List.set_cons_succ]
              refine wpO_load1 27 _ (by rfl) _ sm (by rfl) (loadSM X2 (w1.heap.size + 1) 7 sm c7x) ?_
              refine ⟨hSX2, ?_⟩
              simp only [List.getElem_toArray, List.getElem_cons_zero, List.getElem_cons_succ, Act.put, List.setIfInBounds_toArray, List.set_cons_zero, List.set_cons_succ]
              refine rgn.one (i := 12) _ rfl (by kernel_rfl) (by rfl) ?_
              simp only [List.getElem_toArray, List.getElem_cons_zero, List.getElem_cons_succ, Act.put, List.setIfInBounds_toArray, List.set_cons_zero, List.set_cons_succ]
              rw [eX2]
              refine wpO_bm hbase2 _ _ (by rfl) (by rfl) (nm, v) us hnz (unhide hv1) _ rfl (by rfl) (by omega) ?_
              intro g2 nn2 cc2 w6 hB6 hnn2
              clear hnn2
              have e7 : w6.cell? ⟨w1.heap.size + 1, 7, none⟩ = some sm := hB6.cm 7 _ rfl
              have f7 : w6.frozen? ⟨w1.heap.size + 1, 7, none⟩ = false := (hB6.tm 7 (by omega)).2
              refine ⟨hB6.bel, ?_⟩
              have hS0 := hB6.bel
              simp only [List.getElem_toArray, List.getElem_cons_zero, List.getElem_cons_succ, Act.put, List.setIfInBounds_toArray, List.set_cons_zero, List.set_cons_succ]
              refine rgn.take (i := 13) _ (.pointer (some ⟨w1.heap.size + 1, 7, none⟩)) rfl (by kernel_rfl) (by kernel_rfl) (by kernel_rfl) (fun _ _ _ h => h) (by rfl) hS0 (fun w' hw' => by go_simp) ?_
              simp only [List.getElem_toArray, List.getElem_cons_zero, List.getElem_cons_succ, Act.put, List.setIfInBounds_toArray, List.set_cons_zero, List.set_cons_succ]
              refine rgn.one (i := 14) _ rfl (by kernel_rfl) (by rfl) ?_
              simp only [List.getElem_toArray, List.getElem_cons_zero, List.getElem_cons_succ, Act.put, List.setIfInBounds_toArray, List.set_cons_zero, List.set_cons_succ]
              have hB7 := hide (hB6.putM (.slice (some ⟨g2, 0, none⟩) nn2 cc2))
              clear hB6 hS0 hbase2 hSX2 eX2 bX2 hbd2
              go_wp2_with fail
              refine ⟨(unhide hB7).bel, ?_⟩
              refine wpAnyH_done (by kernel_rfl) ?_ _
              refine NoPanic.normal ?_
              obtain ⟨w7, e7'⟩ : ∃ w7, w7 = w6.setCells (w1.heap.size + 1) 7 [.slice (some ⟨g2, 0, none⟩) nn2 cc2] := ⟨_, rfl⟩
              rw [← e7'] at hB7
              first | rw [← e7'] | rw [show w6.setCell ⟨w1.heap.size + 1, 7, none⟩ (.slice (some ⟨g2, 0, none⟩) nn2 cc2) = w7 from e7'.symm]
              clear e7' e7 f7
              have cv : (convert 34 9 (.slice aa lw ca)).run Tryz.prog w7 = .ok (.string Y) w7 := unhide CT w7 (fun b h1 h2 => (unhide hB7).zeq b ⟨h1, h2⟩)
              have hB8 := hide ((unhide hB7).plain)
              clear hB7 hB5 CT c7'
              go_wp2
              refine ⟨⟨k + 1, _, _, .slice (some ⟨g, 0, none⟩) nn cc, .slice (some ⟨g2, 0, none⟩) nn2 cc2, by omega, by go_num, rfl, rfl, ?_, ?_, ?_⟩, by simp only [intOf]; omega⟩
              · rw [unhide ZK1, txK_snoc, unhide hcom]
                refine hide ?_
                rw [app_listJ, unhide hT1, unhide HY]
                simp only [List.append_assoc, List.nil_append, List.append_nil, List.cons_append]
              · rw [unhide ZK1, nmK_snoc, unhide hcom]
                refine hide ?_
                rw [app_listJ, app_listJ, app_listJ, unhide hT2, unhide HXl, unhide HY]
                simp only [List.append_assoc, List.nil_append, List.append_nil, List.cons_append]
              · rw [unhide ZK1, List.map_append]
                exact hB8
          · simp only [List.getElem_toArray, List.getElem_cons_zero, List.getElem_cons_succ, Act.put, List.setIfInBounds_toArray, List.set_cons_zero, List.set_cons_succ]
            refine wpO_buildOne 22 _ (by rfl) (.agg us.toArray) _ (by rfl) (unhide hbd) ?_
            rw [← eX]
            refine ⟨hSX, ?_⟩
            simp only [List.getElem_toArray, List.getElem_cons_zero, List.getElem_cons_succ, Act.put, List.setIfInBounds_toArray, List.set_cons_zero, List.set_cons_succ]
            refine rgn.one (i := 1) _ rfl (by kernel_rfl) (by rfl) ?_
            simp only [List.getElem_toArray, List.getElem_cons_zero, List.getElem_cons_succ, Act.put, List.setIfInBounds_toArray, List.set_cons_zero, List.set_cons_succ]
            refine wpO_load1 22 _ (by rfl) _ (.slice aj0 0 cj0) (by rfl) (loadSV X1 w1.heap.size 6 _ c6x) ?_
            refine ⟨hSX, ?_⟩
            simp only [List.getElem_toArray, List.getElem_cons_zero, List.getElem_cons_succ, Act.put, List.setIfInBounds_toArray, List.set_cons_zero, List.set_cons_succ]
            refine rgn.one (i := 7) _ rfl (by kernel_rfl) (by rfl) ?_
            simp only [List.getElem_toArray, List.getElem_cons_zero, List.getElem_cons_succ, Act.put, List.setIfInBounds_toArray, List.set_cons_zero, List.set_cons_succ]
            rw [eX]
            refine wpO_bl hbase _ _ (by rfl) (by rfl) v us (unhide hv1) _ rfl (by rfl) (by rw [hKl]; omega) ?_
            intro g nn cc w4 hB4 hnn
            clear hnn
            have e6 : w4.cell? ⟨w1.heap.size, 6, none⟩ = some (.slice aj0 0 cj0) := hB4.cl 6 _ rfl
            have f6 : w4.frozen? ⟨w1.heap.size, 6, none⟩ = false := (hB4.tl 6 (by omega)).2
            refine ⟨hB4.bel, ?_⟩
            have hS0 := hB4.bel
            simp only [List.getElem_toArray, List.getElem_cons_zero, List.getElem_cons_succ, Act.put, List.setIfInBounds_toArray, List.set_cons_zero, List.set_cons_succ]
            refine rgn.take (i := 8) _ (.pointer (some ⟨w1.heap.size, 6, none⟩)) rfl (by kernel_rfl) (by kernel_rfl) (by kernel_rfl) (fun _ _ _ h => h) (by rfl) hS0 (fun w' hw' => by go_simp) ?_
            simp only [List.getElem_toArray, List.getElem_cons_zero, List.getElem_cons_succ, Act.put, List.setIfInBounds_toArray, List.set_cons_zero, List.set_cons_succ]
            refine rgn.one (i := 9) _ rfl (by kernel_rfl) (by rfl) ?_
            simp only [List.getElem_toArray, List.getElem_cons_zero, List.getElem_cons_succ, Act.put, List.setIfInBounds_toArray, List.set_cons_zero, List.set_cons_succ]
            have hB5 := hide (hB4.putL (.slice (some ⟨g, 0, none⟩) nn cc))
            clear hB4 hS0 hbase hSX eX
            go_wp2_with fail
            refine ⟨(unhide hB5).bel, ?_⟩
            refine wpAnyH_done (by kernel_rfl) ?_ _
            refine NoPanic.normal ?_
            obtain ⟨w5, e5⟩ : ∃ w5, w5 = w4.setCells w1.heap.size 6 [.slice (some ⟨g, 0, none⟩) nn cc] := ⟨_, rfl⟩
            rw [← e5] at hB5
            first | rw [← e5] | rw [show w4.setCell ⟨w1.heap.size, 6, none⟩ (.slice (some ⟨g, 0, none⟩) nn cc) = w5 from e5.symm]
            clear e5 e6 f6
            have c7' : w5.cell? ⟨w1.heap.size + 1, 7, none⟩ = some sm := (unhide hB5).cm 7 _ rfl
            have hbase2 := (unhide hB5).below ((Below.refl _ w5).drew)
            have hbd2 := buildM nm (unhide hv1) ({ w5 with drawn := w5.drawn + 1 } : World)
            have s5 := (unhide hB5).siz
            have hS0 : Below w1.heap.size w1 ({ w5 with drawn := w5.drawn + 1 } : World) := hbase2.bel
            obtain ⟨X2, eX2⟩ : ∃ X2, X2 = ({ w5 with drawn := w5.drawn + 1 } : World).alloc (.cells (Value.string nm :: us).toArray 45) := ⟨_, rfl⟩
            have hSX2 : Below w1.heap.size w1 X2 := by rw [eX2]; exact hS0.alloc (show w1.heap.size ≤ w5.heap.size by omega) _
            have bX2 : Below w5.heap.size w5 X2 := by rw [eX2]; exact (Below.refl w5.heap.size w5).drew.alloc (Nat.le_refl _) _
            have c7x := keepC bX2 (show w1.heap.size + 1 < w5.heap.size by omega) c7'
            go_wp2_with fail
            refine wp_region_noPanic ?_
            refine wp_region_held (S := fun w' => Below w1.heap.size w1 w') mixed ?_
            refine wpAnyH_take (i := 0) (v := ?v13) rfl (by kernel_rfl) (by kernel_rfl) (by kernel_rfl) (fun _ _ _ h => h) (Or.inl ⟨by rfl, ?hy13⟩) hS0 ?_
            case hy13 => (intro w' hw';  go_simp; try with_reducible rfl)
            simp only [List.getElem_toArray, List.getElem_cons_zero, List.getElem_cons_succ, Act.put, List.setIfInBounds_toArray, List.set_cons_zero, List.set_cons_succ]
            refine wpAnyH_take (i := 2) (v := ?v14) rfl (by kernel_rfl) (by kernel_rfl) (by kernel_rfl) (fun _ _ _ h => h) (Or.inl ⟨by rfl, ?hy14⟩) hS0 ?_
            case hy14 => (intro w' hw'; have cn := (hw'.cell (p := ⟨b', off' + k, none⟩) (show b' < w1.heap.size by omega)).trans (unhide hnw1); go_simp; try with_reducible rfl)
            simp only [List.getElem_toArray, List.getElem_cons_zero, List.getElem_cons_succ, Act.put, List.setIfInBounds_toArray, List.set_cons_zero, List.set_cons_succ]
            refine wpAnyH_take (i := 3) (v := ?v15) rfl (by kernel_rfl) (by kernel_rfl) (by kernel_rfl) (fun _ _ _ h => h) (Or.inl ⟨by rfl, ?hy15⟩) hS0 ?_
            case hy15 => (intro w' hw'; have cn := (hw'.cell (p := ⟨b', off' + k, none⟩) (show b' < w1.heap.size by omega)).trans (unhide hnw1); go_simp; try with_reducible rfl)
            simp only [List.getElem_toArray, List.getElem_cons_zero, List.getElem_cons_succ, Act.put, List.setIfInBounds_toArray, List.set_cons_zero, List.set_cons_succ]
            refine wpAnyH_take (i := 4) (v := ?v16) rfl (by kernel_rfl) (by kernel_rfl) (by kernel_rfl) (fun _ _ _ h => h) (Or.inl ⟨by rfl, ?hy16⟩) hS0 ?_
            case hy16 => (intro w' hw'; have cn := (hw'.cell (p := ⟨b', off' + k, none⟩) (show b' < w1.heap.size by omega)).trans (unhide hnw1); go_simp; try with_reducible rfl)
            simp only [List.getElem_toArray, List.getElem_cons_zero, List.getElem_cons_succ, Act.put, List.setIfInBounds_toArray, List.set_cons_zero, List.set_cons_succ]
            refine wpAnyH_take (i := 5) (v := ?v17) rfl (by kernel_rfl) (by kernel_rfl) (by kernel_rfl) (fun _ _ _ h => h) (Or.inl ⟨by rfl, ?hy17⟩) hS0 ?_
            case hy17 => (intro w' hw'; have cn := (hw'.cell (p := ⟨b', off' + k, none⟩) (show b' < w1.heap.size by omega)).trans (unhide hnw1); go_simp; try with_reducible rfl)
            simp only [List.getElem_toArray, List.getElem_cons_zero, List.getElem_cons_succ, Act.put, List.setIfInBounds_toArray, List.set_cons_zero, List.set_cons_succ]
            refine wpAnyH_take (i := 6) (v := ?v18) rfl (by kernel_rfl) (by kernel_rfl) (by kernel_rfl) (fun _ _ _ h => h) (Or.inl ⟨by rfl, ?hy18⟩) hS0 ?_
            case hy18 => (intro w' hw';  go_simp; try with_reducible rfl)
            simp only [List.getElem_toArray, List.getElem_cons_zero, List.getElem_cons_succ, Act.put, List.setIfInBounds_toArray, List.set_cons_zero, List.set_cons_succ]
            refine wpAnyH_take (i := 7) (v := ?v19) rfl (by kernel_rfl) (by kernel_rfl) (by kernel_rfl) (fun _ _ _ h => h) (Or.inl ⟨by rfl, ?hy19⟩) hS0 ?_
            case hy19 => (intro w' hw';  go_simp; try with_reducible rfl)
            simp only [List.getElem_toArray, List.getElem_cons_zero, List.getElem_cons_succ, Act.put, List.setIfInBounds_toArray, List.set_cons_zero, List.set_cons_succ]
            refine wpAnyH_take (i := 8) (v := ?v20) rfl (by kernel_rfl) (by kernel_rfl) (by kernel_rfl) (fun _ _ _ h => h) (Or.inl ⟨by rfl, ?hy20⟩) hS0 ?_
            case hy20 => (intro w' hw';  go_simp; try with_reducible rfl)
            simp only [List.getElem_toArray, List.getElem_cons_zero, List.getElem_cons_succ, Act.put, List.setIfInBounds_toArray, List.set_cons_zero, List.set_cons_succ]
            refine wpAnyH_take (i := 9) rfl (by kernel_rfl) (by kernel_rfl) (by kernel_rfl) (fun _ _ _ h => h) (yieldsIf_load_mid (by rfl) 29 _ (by rfl) p (off + k * 8) (by rfl) us _ (fun w' hw' => range_below (unhide hrw1) hw' (show p < w1.heap.size by omega)) Tryz.underlying29 (by rfl) (unhide iu)) hS0 ?_
            simp only [List.getElem_toArray, List.getElem_cons_zero, List.getElem_cons_succ, Act.put, List.setIfInBounds_toArray, List.set_cons_zero, List.set_cons_succ]
            refine rgn.take (i := 10) _ (.agg (Value.string nm :: us).toArray) rfl (by kernel_rfl) (by kernel_rfl) (by kernel_rfl) (fun _ _ _ h => h) (by rfl) hS0 (fun w' hw' => runM10 nm (unhide hv1) _ _ (by rfl) (by rfl) (by rfl) w') ?_
            simp only [List.getElem_toArray, List.getElem_cons_zero, List.getElem_cons_succ, Act.put, List.setIfInBounds_toArray, List.set_cons_zero, List.set_cons_succ]
            refine rgn.two (i := 1) (j := 11) _ _ rfl rfl (by kernel_rfl) (by rfl) (by rfl) ?_ ?_
            · simp only [List.getElem_toArray, List.getElem_cons_zero, List.getElem_cons_succ, Act.put, List.setIfInBounds_toArray, List.set_cons_zero, List.set_cons_succ]
              clear c7x
              go_wp2_with fail
              refine ⟨hS0, ?_⟩
              refine rgn.one (i := 11) _ rfl (by kernel_rfl) (by rfl) ?_
              simp only [List.getElem_toArray, List.getElem_cons_zero, List.getElem_cons_succ, Act.put, List.setIfInBounds_toArray, List.set_cons_zero, List.set_cons_succ]
              refine wpO_buildOne 27 _ (by rfl) (.agg (Value.string nm :: us).toArray) _ (by rfl) hbd2 ?_
              rw [← eX2]
              refine ⟨hSX2, ?_⟩
              simp only [List.getElem_toArray, List.getElem_cons_zero, List.getElem_cons_succ, Act.put, List.setIfInBounds_toArray, List.set_cons_zero, List.set_cons_succ]
              refine rgn.one (i := 12) _ rfl (by kernel_rfl) (by rfl) ?_
              simp only [List.getElem_toArray, List.getElem_cons_zero, List.getElem_cons_succ, Act.put, List.setIfInBounds_toArray, List.set_cons_zero, List.set_cons_succ]
              rw [eX2]
              refine wpO_bm hbase2 _ _ (by rfl) (by rfl) (nm, v) us hnz (unhide hv1) _ rfl (by rfl) (by omega) ?_
              intro g2 nn2 cc2 w6 hB6 hnn2
              clear hnn2
              have e7 : w6.cell? ⟨w1.heap.size + 1, 7, none⟩ = some sm := hB6.cm 7 _ rfl
              have f7 : w6.frozen? ⟨w1.heap.size + 1, 7, none⟩ = false := (hB6.tm 7 (by omega)).2
              refine ⟨hB6.bel, ?_⟩
              have hS0 := hB6.bel
              simp only [List.getElem_toArray, List.getElem_cons_zero, List.getElem_cons_succ, Act.put, List.setIfInBounds_toArray, List.set_cons_zero, List.set_cons_succ]
              refine rgn.take (i := 13) _ (.pointer (some ⟨w1.heap.size + 1, 7, none⟩)) rfl (by kernel_rfl) (by kernel_rfl) (by kernel_rfl) (fun _ _ _ h => h) (by rfl) hS0 (fun w' hw' => by go_simp) ?_
              simp only [List.getElem_toArray, List.getElem_cons_zero, List.getElem_cons_succ, Act.put, List.setIfInBounds_toArray, List.set_cons_zero, List.set_cons_succ]
              refine rgn.one (i := 14) _ rfl (by kernel_rfl) (by rfl) ?_
              simp only [List.getElem_toArray, List.getElem_cons_zero, List.getElem_cons_succ, Act.put, List.setIfInBounds_toArray, List.set_cons_zero, List.set_cons_succ]
              have hB7 := hide (hB6.putM (.slice (some ⟨g2, 0, none⟩) nn2 cc2))
              clear hB6 hS0 hbase2 hSX2 eX2 bX2 hbd2
              go_wp2_with fail
              refine ⟨(unhide hB7).bel, ?_⟩
              refine wpAnyH_done (by kernel_rfl) ?_ _
              refine NoPanic.normal ?_
              obtain ⟨w7, e7'⟩ : ∃ w7, w7 = w6.setCells (w1.heap.size + 1) 7 [.slice (some ⟨g2, 0, none⟩) nn2 cc2] := ⟨_, rfl⟩
              rw [← e7'] at hB7
              first | rw [← e7'] | rw [show w6.setCell ⟨w1.heap.size + 1, 7, none⟩ (.slice (some ⟨g2, 0, none⟩) nn2 cc2) = w7 from e7'.symm]
              clear e7' e7 f7
              have cv : (convert 34 9 (.slice aa lw ca)).run Tryz.prog w7 = .ok (.string Y) w7 := unhide CT w7 (fun b h1 h2 => (unhide hB7).zeq b ⟨h1, h2⟩)
              have hB8 := hide ((unhide hB7).plain)
              clear hB7 hB5 CT c7'
              go_wp2
              refine ⟨⟨k + 1, _, _, .slice (some ⟨g, 0, none⟩) nn cc, .slice (some ⟨g2, 0, none⟩) nn2 cc2, by omega, by go_num, rfl, rfl, ?_, ?_, ?_⟩, by simp only [intOf]; omega⟩
              · rw [unhide ZK1, txK_snoc, unhide hcom]
                refine hide ?_
                rw [app_listJ, unhide hT1, unhide HY]
                simp only [List.append_assoc, List.nil_append, List.append_nil, List.cons_append]
              · rw [unhide ZK1, nmK_snoc, unhide hcom]
                refine hide ?_
                rw [app_listJ, app_listJ, app_listJ, unhide hT2, unhide HXl, unhide HY]
                simp only [List.append_assoc, List.nil_append, List.append_nil, List.cons_append]
              · rw [unhide ZK1, List.map_append]
                exact hB8
            · simp only [List.getElem_toArray, List.getElem_cons_zero, List.getElem_cons_succ, Act.put, List.setIfInBounds_toArray, List.set_cons_zero, List.set_cons_succ]
              refine wpO_buildOne 27 _ (by rfl) (.agg (Value.string nm :: us).toArray) _ (by rfl) hbd2 ?_
              rw [← eX2]
              refine ⟨hSX2, ?_⟩
              simp only [List.getElem_toArray, List.getElem_cons_zero, List.getElem_cons_succ, Act.put, List.setIfInBounds_toArray, List.set_cons_zero, List.set_cons_succ]
              refine rgn.one (i := 1) _ rfl (by kernel_rfl) (by rfl) ?_
              simp only [List.getElem_toArray, List.getElem_cons_zero, List.getElem_cons_succ, Act.put, List.setIfInBounds_toArray, List.set_cons_zero, List.set_cons_succ]
              refine wpO_load1 27 _ (by rfl) _ sm (by rfl) (loadSM X2 (w1.heap.size + 1) 7 sm c7x) ?_
              refine ⟨hSX2, ?_⟩
              simp only [List.getElem_toArray, List.getElem_cons_zero, List.getElem_cons_succ, Act.put, List.setIfInBounds_toArray, List.set_cons_zero, List.set_cons_succ]
              refine rgn.one (i := 12) _ rfl (by kernel_rfl) (by rfl) ?_
              simp only [List.getElem_toArray, List.getElem_cons_zero, List.getElem_cons_succ, Act.put, List.setIfInBounds_toArray, List.set_cons_zero, List.set_cons_succ]
              rw [eX2]
              refine wpO_bm hbase2 _ _ (by rfl) (by rfl) (nm, v) us hnz (unhide hv1) _ rfl (by rfl) (by omega) ?_
              intro g2 nn2 cc2 w6 hB6 hnn2
              clear hnn2
              have e7 : w6.cell? ⟨w1.heap.size + 1, 7, none⟩ = some sm := hB6.cm 7 _ rfl
              have f7 : w6.frozen? ⟨w1.heap.size + 1, 7, none⟩ = false := (hB6.tm 7 (by omega)).2
              refine ⟨hB6.bel, ?_⟩
              have hS0 := hB6.bel
              simp only [List.getElem_toArray, List.getElem_cons_zero, List.getElem_cons_succ, Act.put, List.setIfInBounds_toArray, List.set_cons_zero, List.set_cons_succ]
              refine rgn.take (i := 13) _ (.pointer (some ⟨w1.heap.size + 1, 7, none⟩)) rfl (by kernel_rfl) (by kernel_rfl) (by kernel_rfl) (fun _ _ _ h => h) (by rfl) hS0 (fun w' hw' => by go_simp) ?_
              simp only [List.getElem_toArray, List.getElem_cons_zero, List.getElem_cons_succ, Act.put, List.setIfInBounds_toArray, List.set_cons_zero, List.set_cons_succ]
              refine rgn.one (i := 14) _ rfl (by kernel_rfl) (by rfl) ?_
              simp only [List.getElem_toArray, List.getElem_cons_zero, List.getElem_cons_succ, Act.put, List.setIfInBounds_toArray, List.set_cons_zero, List.set_cons_succ]
              have hB7 := hide (hB6.putM (.slice (some ⟨g2, 0, none⟩) nn2 cc2))
              clear hB6 hS0 hbase2 hSX2 eX2 bX2 hbd2
              go_wp2_with fail
              refine ⟨(unhide hB7).bel, ?_⟩
              refine wpAnyH_done (by kernel_rfl) ?_ _
              refine NoPanic.normal ?_
              obtain ⟨w7, e7'⟩ : ∃ w7, w7 = w6.setCells (w1.heap.size + 1) 7 [.slice (some ⟨g2, 0, none⟩) nn2 cc2] := ⟨_, rfl⟩
              rw [← e7'] at hB7
              first | rw [← e7'] | rw [show w6.setCell ⟨w1.heap.size + 1, 7, none⟩ (.slice (some ⟨g2, 0, none⟩) nn2 cc2) = w7 from e7'.symm]
              clear e7' e7 f7
              have cv : (convert 34 9 (.slice aa lw ca)).run Tryz.prog w7 = .ok (.string Y) w7 := unhide CT w7 (fun b h1 h2 => (unhide hB7).zeq b ⟨h1, h2⟩)
              have hB8 := hide ((unhide hB7).plain)
              clear hB7 hB5 CT c7'
              go_wp2
              refine ⟨⟨k + 1, _, _, .slice (some ⟨g, 0, none⟩) nn cc, .slice (some ⟨g2, 0, none⟩) nn2 cc2, by omega, by go_num, rfl, rfl, ?_, ?_, ?_⟩, by simp only [intOf]; omega⟩
              · rw [unhide ZK1, txK_snoc, unhide hcom]
                refine hide ?_
                rw [app_listJ, unhide hT1, unhide HY]
                simp only [List.append_assoc, List.nil_append, List.append_nil, List.cons_append]
              · rw [unhide ZK1, nmK_snoc, unhide hcom]
                refine hide ?_
                rw [app_listJ, app_listJ, app_listJ, unhide hT2, unhide HXl, unhide HY]
                simp only [List.append_assoc, List.nil_append, List.append_nil, List.cons_append]
              · rw [unhide ZK1, List.map_append]
                exact hB8
        · have ck : (0 : Int) < (nj0 : Int) := by omega
          have hcom : com K.length = [44] := by unfold com; rw [if_neg (by omega)]
          have hcom := hide hcom
          clear hnj0 hnil
          go_wp2_with fail
          have s1e : (S1 ++ (⟨#[44]⟩ : ByteArray)).data.toList = S1.data.toList ++ [44] := app_listJ _ _
          have s2e : (S2 ++ (⟨#[44]⟩ : ByteArray)).data.toList = S2.data.toList ++ [44] := app_listJ _ _
          have y1 : (S1 ++ (⟨#[44]⟩ : ByteArray)).size ≤ 2306867202 := by rw [ByteArray.size_append]; have : (⟨#[44]⟩ : ByteArray).size = 1 := rfl; omega
          have y2 : (S2 ++ (⟨#[44]⟩ : ByteArray)).size ≤ 2306867202 := by rw [ByteArray.size_append]; have : (⟨#[44]⟩ : ByteArray).size = 1 := rfl; omega
          generalize S1 ++ (⟨#[44]⟩ : ByteArray) = R1 at *
          generalize S2 ++ (⟨#[44]⟩ : ByteArray) = R2 at *
          have hbase := (unhide hS3w).below ((Below.refl _ w3).drew)
          have hS0 : Below w1.heap.size w1 ({ w3 with drawn := w3.drawn + 1 } : World) := hbase.bel
          obtain ⟨X1, eX⟩ : ∃ X1, X1 = ({ w3 with drawn := w3.drawn + 1 } : World).alloc (.cells us.toArray 29) := ⟨_, rfl⟩
          have hSX : Below w1.heap.size w1 X1 := by rw [eX]; exact hS0.alloc (show w1.heap.size ≤ w3.heap.size by omega) _
          have bX : Below w3.heap.size w3 X1 := by rw [eX]; exact (Below.refl w3.heap.size w3).drew.alloc (Nat.le_refl _) _
          have c6x := keepC bX (show w1.heap.size < w3.heap.size by omega) c6
          clear bX
          refine wp_region_noPanic ?_
          refine wp_region_held (S := fun w' => Below w1.heap.size w1 w') mixed ?_
          refine wpAnyH_take (i := 0) (v := ?v21) rfl (by kernel_rfl) (by kernel_rfl) (by kernel_rfl) (fun _ _ _ h => h) (Or.inl ⟨by rfl, ?hy21⟩) hS0 ?_
          case hy21 => (intro w' hw';  go_simp; try with_reducible rfl)
          simp only [List.getElem_toArray, List.getElem_cons_zero, List.getElem_cons_succ, Act.put, List.setIfInBounds_toArray, List.set_cons_zero, List.set_cons_succ]
          refine wpAnyH_take (i := 2) (v := ?v22) rfl (by kernel_rfl) (by kernel_rfl) (by kernel_rfl) (fun _ _ _ h => h) (Or.inl ⟨by rfl, ?hy22⟩) hS0 ?_
          case hy22 => (intro w' hw';  go_simp; try with_reducible rfl)
          simp only [List.getElem_toArray, List.getElem_cons_zero, List.getElem_cons_succ, Act.put, List.setIfInBounds_toArray, List.set_cons_zero, List.set_cons_succ]
          refine wpAnyH_take (i := 3) (v := ?v23) rfl (by kernel_rfl) (by kernel_rfl) (by kernel_rfl) (fun _ _ _ h => h) (Or.inl ⟨by rfl, ?hy23⟩) hS0 ?_
          case hy23 => (intro w' hw';  go_simp; try with_reducible rfl)
          simp only [List.getElem_toArray, List.getElem_cons_zero, List.getElem_cons_succ, Act.put, List.setIfInBounds_toArray, List.set_cons_zero, List.set_cons_succ]
          refine wpAnyH_take (i := 4) (v := ?v24) rfl (by kernel_rfl) (by kernel_rfl) (by kernel_rfl) (fun _ _ _ h => h) (Or.inl ⟨by rfl, ?hy24⟩) hS0 ?_
          case hy24 => (intro w' hw';  go_simp; try with_reducible rfl)
          simp only [List.getElem_toArray, List.getElem_cons_zero, List.getElem_cons_succ, Act.put, List.setIfInBounds_toArray, List.set_cons_zero, List.set_cons_succ]
          refine wpAnyH_take (i := 5) rfl (by kernel_rfl) (by kernel_rfl) (by kernel_rfl) (fun _ _ _ h => h) (yieldsIf_load_mid (by rfl) 29 _ (by rfl) p (off + k * 8) (by rfl) us _ (fun w' hw' => range_below (unhide hrw1) hw' (show p < w1.heap.size by omega)) Tryz.underlying29 (by rfl) (unhide iu)) hS0 ?_
          simp only [List.getElem_toArray, List.getElem_cons_zero, List.getElem_cons_succ, Act.put, List.setIfInBounds_toArray, List.set_cons_zero, List.set_cons_succ]
          refine rgn.two (i := 1) (j := 6) _ _ rfl rfl (by kernel_rfl) (by rfl) (by rfl) ?_ ?_
          · simp only [List.getElem_toArray, List.getElem_cons_zero, List.getElem_cons_succ, Act.put, List.setIfInBounds_toArray, List.set_cons_zero, List.set_cons_succ]
            clear c6x
            go_wp2_with fail
            refine ⟨hS0, ?_⟩
            refine rgn.one (i := 6) _ rfl (by kernel_rfl) (by rfl) ?_
            simp only [List.getElem_toArray, List.getElem_cons_zero, List.getElem_cons_succ, Act.put, List.setIfInBounds_toArray, List.set_cons_zero, List.set_cons_succ]
            refine wpO_buildOne 22 _ (by rfl) (.agg us.toArray) _ (by rfl) (unhide hbd) ?_
            rw [← eX]
            refine ⟨hSX, ?_⟩
            simp only [List.getElem_toArray, List.getElem_cons_zero, List.getElem_cons_succ, Act.put, List.setIfInBounds_toArray, List.set_cons_zero, List.set_cons_succ]
            refine rgn.one (i := 7) _ rfl (by kernel_rfl) (by rfl) ?_
            simp only [List.getElem_toArray, List.getElem_cons_zero, List.getElem_cons_succ, Act.put, List.setIfInBounds_toArray, List.set_cons_zero, List.set_cons_succ]
            rw [eX]
            refine wpO_bl hbase _ _ (by rfl) (by rfl) v us (unhide hv1) _ rfl (by rfl) (by rw [hKl]; omega) ?_
            intro g nn cc w4 hB4 hnn
            clear hnn
            have e6 : w4.cell? ⟨w1.heap.size, 6, none⟩ = some (.slice aj0 nj0 cj0) := hB4.cl 6 _ rfl
            have f6 : w4.frozen? ⟨w1.heap.size, 6, none⟩ = false := (hB4.tl 6 (by omega)).2
            refine ⟨hB4.bel, ?_⟩
            have hS0 := hB4.bel
            simp only [List.getElem_toArray, List.getElem_cons_zero, List.getElem_cons_succ, Act.put, List.setIfInBounds_toArray, List.set_cons_zero, List.set_cons_succ]
            refine rgn.take (i := 8) _ (.pointer (some ⟨w1.heap.size, 6, none⟩)) rfl (by kernel_rfl) (by kernel_rfl) (by kernel_rfl) (fun _ _ _ h => h) (by rfl) hS0 (fun w' hw' => by go_simp) ?_
            simp only [List.getElem_toArray, List.getElem_cons_zero, List.getElem_cons_succ, Act.put, List.setIfInBounds_toArray, List.set_cons_zero, List.set_cons_succ]
            refine rgn.one (i := 9) _ rfl (by kernel_rfl) (by rfl) ?_
            simp only [List.getElem_toArray, List.getElem_cons_zero, List.getElem_cons_succ, Act.put, List.setIfInBounds_toArray, List.set_cons_zero, List.set_cons_succ]
            have hB5 := hide (hB4.putL (.slice (some ⟨g, 0, none⟩) nn cc))
            clear hB4 hS0 hbase hSX eX
            go_wp2_with fail
            refine ⟨(unhide hB5).bel, ?_⟩
            refine wpAnyH_done (by kernel_rfl) ?_ _
            refine NoPanic.normal ?_
            obtain ⟨w5, e5⟩ : ∃ w5, w5 = w4.setCells w1.heap.size 6 [.slice (some ⟨g, 0, none⟩) nn cc] := ⟨_, rfl⟩
            rw [← e5] at hB5
            first | rw [← e5] | rw [show w4.setCell ⟨w1.heap.size, 6, none⟩ (.slice (some ⟨g, 0, none⟩) nn cc) = w5 from e5.symm]
            clear e5 e6 f6
            have c7' : w5.cell? ⟨w1.heap.size + 1, 7, none⟩ = some sm := (unhide hB5).cm 7 _ rfl
            have hbase2 := (unhide hB5).below ((Below.refl _ w5).drew)
            have hbd2 := buildM nm (unhide hv1) ({ w5 with drawn := w5.drawn + 1 } : World)
            have s5 := (unhide hB5).siz
            have hS0 : Below w1.heap.size w1 ({ w5 with drawn := w5.drawn + 1 } : World) := hbase2.bel
            obtain ⟨X2, eX2⟩ : ∃ X2, X2 = ({ w5 with drawn := w5.drawn + 1 } : World).alloc (.cells (Value.string nm :: us).toArray 45) := ⟨_, rfl⟩
            have hSX2 : Below w1.heap.size w1 X2 := by rw [eX2]; exact hS0.alloc (show w1.heap.size ≤ w5.heap.size by omega) _
            have bX2 : Below w5.heap.size w5 X2 := by rw [eX2]; exact (Below.refl w5.heap.size w5).drew.alloc (Nat.le_refl _) _
            have c7x := keepC bX2 (show w1.heap.size + 1 < w5.heap.size by omega) c7'
            go_wp2_with fail
            refine wp_region_noPanic ?_
            refine wp_region_held (S := fun w' => Below w1.heap.size w1 w') mixed ?_
            refine wpAnyH_take (i := 0) (v := ?v25) rfl (by kernel_rfl) (by kernel_rfl) (by kernel_rfl) (fun _ _ _ h => h) (Or.inl ⟨by rfl, ?hy25⟩) hS0 ?_
            case hy25 => (intro w' hw';  go_simp; try with_reducible rfl)
            simp only [List.getElem_toArray, List.getElem_cons_zero, List.getElem_cons_succ, Act.put, List.setIfInBounds_toArray, List.set_cons_zero, List.set_cons_succ]
            refine wpAnyH_take (i := 2) (v := ?v26) rfl (by kernel_rfl) (by kernel_rfl) (by kernel_rfl) (fun _ _ _ h => h) (Or.inl ⟨by rfl, ?hy26⟩) hS0 ?_
            case hy26 => (intro w' hw'; have cn := (hw'.cell (p := ⟨b', off' + k, none⟩) (show b' < w1.heap.size by omega)).trans (unhide hnw1); go_simp; try with_reducible rfl)
            simp only [List.getElem_toArray, List.getElem_cons_zero, List.getElem_cons_succ, Act.put, List.setIfInBounds_toArray, List.set_cons_zero, List.set_cons_succ]
            refine wpAnyH_take (i := 3) (v := ?v27) rfl (by kernel_rfl) (by kernel_rfl) (by kernel_rfl) (fun _ _ _ h => h) (Or.inl ⟨by rfl, ?hy27⟩) hS0 ?_
            case hy27 => (intro w' hw'; have cn := (hw'.cell (p := ⟨b', off' + k, none⟩) (show b' < w1.heap.size by omega)).trans (unhide hnw1); go_simp; try with_reducible rfl)
            simp only [List.getElem_toArray, List.getElem_cons_zero, List.getElem_cons_succ, Act.put, List.setIfInBounds_toArray, List.set_cons_zero, List.set_cons_succ]
            refine wpAnyH_take (i := 4) (v := ?v28) rfl (by kernel_rfl) (by kernel_rfl) (by kernel_rfl) (fun _ _ _ h => h) (Or.inl ⟨by rfl, ?hy28⟩) hS0 ?_
            case hy28 => (intro w' hw'; have cn := (hw'.cell (p := ⟨b', off' + k, none⟩) (show b' < w1.heap.size by omega)).trans (unhide hnw1); go_simp; try with_reducible rfl)
            simp only [List.getElem_toArray, List.getElem_cons_zero, List.getElem_cons_succ, Act.put, List.setIfInBounds_toArray, List.set_cons_zero, List.set_cons_succ]
            refine wpAnyH_take (i := 5) (v := ?v29) rfl (by kernel_rfl) (by kernel_rfl) (by kernel_rfl) (fun _ _ _ h => h) (Or.inl ⟨by rfl, ?hy29⟩) hS0 ?_
            case hy29 => (intro w' hw'; have cn := (hw'.cell (p := ⟨b', off' + k, none⟩) (show b' < w1.heap.size by omega)).trans (unhide hnw1); go_simp; try with_reducible rfl)
            simp only [List.getElem_toArray, List.getElem_cons_zero, List.getElem_cons_succ, Act.put, List.setIfInBounds_toArray, List.set_cons_zero, List.set_cons_succ]
            refine wpAnyH_take (i := 6) (v := ?v30) rfl (by kernel_rfl) (by kernel_rfl) (by kernel_rfl) (fun _ _ _ h => h) (Or.inl ⟨by rfl, ?hy30⟩) hS0 ?_
            case hy30 => (intro w' hw';  go_simp; try with_reducible rfl)
            simp only [List.getElem_toArray, List.getElem_cons_zero, List.getElem_cons_succ, Act.put, List.setIfInBounds_toArray, List.set_cons_zero, List.set_cons_succ]
            refine wpAnyH_take (i := 7) (v := ?v31) rfl (by kernel_rfl) (by kernel_rfl) (by kernel_rfl) (fun _ _ _ h => h) (Or.inl ⟨by rfl, ?hy31⟩) hS0 ?_
            case hy31 => (intro w' hw';  go_simp; try with_reducible rfl)
            simp only [List.getElem_toArray, List.getElem_cons_zero, List.getElem_cons_succ, Act.put, List.setIfInBounds_toArray, List.set_cons_zero, List.set_cons_succ]
            refine wpAnyH_take (i := 8) (v := ?v32) rfl (by kernel_rfl) (by kernel_rfl) (by kernel_rfl) (fun _ _ _ h => h) (Or.inl ⟨by rfl, ?hy32⟩) hS0 ?_
            case hy32 => (intro w' hw';  go_simp; try with_reducible rfl)
            simp only [List.getElem_toArray, List.getElem_cons_zero, List.getElem_cons_succ, Act.put, List.setIfInBounds_toArray, List.set_cons_zero, List.set_cons_succ]
            refine wpAnyH_take (i := 9) rfl (by kernel_rfl) (by kernel_rfl) (by kernel_rfl) (fun _ _ _ h => h) (yieldsIf_load_mid (by rfl) 29 _ (by rfl) p (off + k * 8) (by rfl) us _ (fun w' hw' => range_below (unhide hrw1) hw' (show p < w1.heap.size by omega)) Tryz.underlying29 (by rfl) (unhide iu)) hS0 ?_
            simp only [List.getElem_toArray, List.getElem_cons_zero, List.getElem_cons_succ, Act.put, List.setIfInBounds_toArray, List.set_cons_zero, List.set_cons_succ]
            refine rgn.take (i := 10) _ (.agg (Value.string nm :: us).toArray) rfl (by kernel_rfl) (by kernel_rfl) (by kernel_rfl) (fun _ _ _ h => h) (by rfl) hS0 (fun w' hw' => runM10 nm (unhide hv1) _ _ (by rfl) (by rfl) (by rfl) w') ?_
            simp only [List.getElem_toArray, List.getElem_cons_zero, List.getElem_cons_succ, Act.put, List.setIfInBounds_toArray, List.set_cons_zero, List.set_cons_succ]
            refine rgn.two (i := 1) (j := 11) _ _ rfl rfl (by kernel_rfl) (by rfl) (by rfl) ?_ ?_
            · simp only [List.getElem_toArray, List.getElem_cons_zero, List.getElem_cons_succ, Act.put, List.setIfInBounds_toArray, List.set_cons_zero, List.set_cons_succ]
              clear c7x
              go_wp2_with fail
              refine ⟨hS0, ?_⟩
              refine rgn.one (i := 11) _ rfl (by kernel_rfl) (by rfl) ?_
              simp only [List.getElem_toArray, List.getElem_cons_zero, List.getElem_cons_succ, Act.put, List.setIfInBounds_toArray, List.set_cons_zero, List.set_cons_succ]
              refine wpO_buildOne 27 _ (by rfl) (.agg (Value.string nm :: us).toArray) _ (by rfl) hbd2 ?_
              rw [← eX2]
              refine ⟨hSX2, ?_⟩
              simp only [List.getElem_toArray, List.getElem_cons_zero, List.getElem_cons_succ, Act.put, List.setIfInBounds_toArray, List.set_cons_zero, List.set_cons_succ]
              refine rgn.one (i := 12) _ rfl (by kernel_rfl) (by rfl) ?_
              simp only [List.getElem_toArray, List.getElem_cons_zero, List.getElem_cons_succ, Act.put, List.setIfInBounds_toArray, List.set_cons_zero, List.set_cons_succ]
              rw [eX2]
              refine wpO_bm hbase2 _ _ (by rfl) (by rfl) (nm, v) us hnz (unhide hv1) _ rfl (by rfl) (by omega) ?_
              intro g2 nn2 cc2 w6 hB6 hnn2
              clear hnn2
              have e7 : w6.cell? ⟨w1.heap.size + 1, 7, none⟩ = some sm := hB6.cm 7 _ rfl
              have f7 : w6.frozen? ⟨w1.heap.size + 1, 7, none⟩ = false := (hB6.tm 7 (by omega)).2
              refine ⟨hB6.bel, ?_⟩
              have hS0 := hB6.bel
              simp only [List.getElem_toArray, List.getElem_cons_zero, List.getElem_cons_succ, Act.put, List.setIfInBounds_toArray, List.set_cons_zero, List.set_cons_succ]
              refine rgn.take (i := 13) _ (.pointer (some ⟨w1.heap.size + 1, 7, none⟩)) rfl (by kernel_rfl) (by kernel_rfl) (by kernel_rfl) (fun _ _ _ h => h) (by rfl) hS0 (fun w' hw' => by go_simp) ?_
              simp only [List.getElem_toArray, List.getElem_cons_zero, List.getElem_cons_succ, Act.put, List.setIfInBounds_toArray, List.set_cons_zero, List.set_cons_succ]
              refine rgn.one (i := 14) _ rfl (by kernel_rfl) (by rfl) ?_
              simp only [List.getElem_toArray, List.getElem_cons_zero, List.getElem_cons_succ, Act.put, List.setIfInBounds_toArray, List.set_cons_zero, List.set_cons_succ]
              have hB7 := hide (hB6.putM (.slice (some ⟨g2, 0, none⟩) nn2 cc2))
              clear hB6 hS0 hbase2 hSX2 eX2 bX2 hbd2
              go_wp2_with fail
              refine ⟨(unhide hB7).bel, ?_⟩
              refine wpAnyH_done (by kernel_rfl) ?_ _
              refine NoPanic.normal ?_
              obtain ⟨w7, e7'⟩ : ∃ w7, w7 = w6.setCells (w1.heap.size + 1) 7 [.slice (some ⟨g2, 0, none⟩) nn2 cc2] := ⟨_, rfl⟩
              rw [← e7'] at hB7
              first | rw [← e7'] | rw [show w6.setCell ⟨w1.heap.size + 1, 7, none⟩ (.slice (some ⟨g2, 0, none⟩) nn2 cc2) = w7 from e7'.symm]
              clear e7' e7 f7
              have cv : (convert 34 9 (.slice aa lw ca)).run Tryz.prog w7 = .ok (.string Y) w7 := unhide CT w7 (fun b h1 h2 => (unhide hB7).zeq b ⟨h1, h2⟩)
              have hB8 := hide ((unhide hB7).plain)
              clear hB7 hB5 CT c7'
              go_wp2
              refine ⟨⟨k + 1, _, _, .slice (some ⟨g, 0, none⟩) nn cc, .slice (some ⟨g2, 0, none⟩) nn2 cc2, by omega, by go_num, rfl, rfl, ?_, ?_, ?_⟩, by simp only [intOf]; omega⟩
              · rw [unhide ZK1, txK_snoc, unhide hcom]
                refine hide ?_
                rw [app_listJ, s1e, unhide hT1, unhide HY]
                simp only [List.append_assoc, List.nil_append, List.append_nil, List.cons_append]
              · rw [unhide ZK1, nmK_snoc, unhide hcom]
                refine hide ?_
                rw [app_listJ, app_listJ, app_listJ, s2e, unhide hT2, unhide HXl, unhide HY]
                simp only [List.append_assoc, List.nil_append, List.append_nil, List.cons_append]
              · rw [unhide ZK1, List.map_append]
                exact hB8
            · simp only [List.getElem_toArray, List.getElem_cons_zero, List.getElem_cons_succ, Act.put, List.setIfInBounds_toArray, List.set_cons_zero, List.set_cons_succ]
              refine wpO_buildOne 27 _ (by rfl) (.agg (Value.string nm :: us).toArray) _ (by rfl) hbd2 ?_
              rw [← eX2]
              refine ⟨hSX2, ?_⟩
              simp only [List.getElem_toArray, List.getElem_cons_zero, List.getElem_cons_succ, Act.put, List.setIfInBounds_toArray, List.set_cons_zero, List.set_cons_succ]
              refine rgn.one (i := 1) _ rfl (by kernel_rfl) (by rfl) ?_
              simp only [List.getElem_toArray, List.getElem_cons_zero, List.getElem_cons_succ, Act.put, List.setIfInBounds_toArray, List.set_cons_zero, List.set_cons_succ]
              refine wpO_load1 27 _ (by rfl) _ sm (by rfl) (loadSM X2 (w1.heap.size + 1) 7 sm c7x) ?_
              refine ⟨hSX2, ?_⟩
              simp only [List.getElem_toArray, List.getElem_cons_zero, List.getElem_cons_succ, Act.put, List.setIfInBounds_toArray, List.set_cons_zero, List.set_cons_succ]
              refine rgn.one (i := 12) _ rfl (by kernel_rfl) (by rfl) ?_
              simp only [List.getElem_toArray, List.getElem_cons_zero, List.getElem_cons_succ, Act.put, List.setIfInBounds_toArray, List.set_cons_zero, List.set_cons_succ]
              rw [eX2]
              refine wpO_bm hbase2 _ _ (by rfl) (by rfl) (nm, v) us hnz (unhide hv1) _ rfl (by rfl) (by omega) ?_
              intro g2 nn2 cc2 w6 hB6 hnn2
              clear hnn2
              have e7 : w6.cell? ⟨w1.heap.size + 1, 7, none⟩ = some sm := hB6.cm 7 _ rfl
              have f7 : w6.frozen? ⟨w1.heap.size + 1, 7, none⟩ = false := (hB6.tm 7 (by omega)).2
              refine ⟨hB6.bel, ?_⟩
              have hS0 := hB6.bel
              simp only [List.getElem_toArray, List.getElem_cons_zero, List.getElem_cons_succ, Act.put, List.setIfInBounds_toArray, List.set_cons_zero, List.set_cons_succ]
              refine rgn.take (i := 13) _ (.pointer (some ⟨w1.heap.size + 1, 7, none⟩)) rfl (by kernel_rfl) (by kernel_rfl) (by kernel_rfl) (fun _ _ _ h => h) (by rfl) hS0 (fun w' hw' => by go_simp) ?_
              simp only [List.getElem_toArray, List.getElem_cons_zero, List.getElem_cons_succ, Act.put, List.setIfInBounds_toArray, List.set_cons_zero, List.set_cons_succ]
              refine rgn.one (i := 14) _ rfl (by kernel_rfl) (by rfl) ?_
              simp only [List.getElem_toArray, List.getElem_cons_zero, List.getElem_cons_succ, Act.put, List.setIfInBounds_toArray, List.set_cons_zero, List.set_cons_succ]
              have hB7 := hide (hB6.putM (.slice (some ⟨g2, 0, none⟩) nn2 cc2))
              clear hB6 hS0 hbase2 hSX2 eX2 bX2 hbd2
              go_wp2_with fail
              refine ⟨(unhide hB7).bel, ?_⟩
              refine wpAnyH_done (by kernel_rfl) ?_ _
              refine NoPanic.normal ?_
              obtain ⟨w7, e7'⟩ : ∃ w7, w7 = w6.setCells (w1.heap.size + 1) 7 [.slice (some ⟨g2, 0, none⟩) nn2 cc2] := ⟨_, rfl⟩
              rw [← e7'] at hB7
              first | rw [← e7'] | rw [show w6.setCell ⟨w1.heap.size + 1, 7, none⟩ (.slice (some ⟨g2, 0, none⟩) nn2 cc2) = w7 from e7'.symm]
              clear e7' e7 f7
              have cv : (convert 34 9 (.slice aa lw ca)).run Tryz.prog w7 = .ok (.string Y) w7 := unhide CT w7 (fun b h1 h2 => (unhide hB7).zeq b ⟨h1, h2⟩)
              have hB8 := hide ((unhide hB7).plain)
              clear hB7 hB5 CT c7'
              go_wp2
              refine ⟨⟨k + 1, _, _, .slice (some ⟨g, 0, none⟩) nn cc, .slice (some ⟨g2, 0, none⟩) nn2 cc2, by omega, by go_num, rfl, rfl, ?_, ?_, ?_⟩, by simp only [intOf]; omega⟩
              · rw [unhide ZK1, txK_snoc, unhide hcom]
                refine hide ?_
                rw [app_listJ, s1e, unhide hT1, unhide HY]
                simp only [List.append_assoc, List.nil_append, List.append_nil, List.cons_append]
              · rw [unhide ZK1, nmK_snoc, unhide hcom]
                refine hide ?_
                rw [app_listJ, app_listJ, app_listJ, s2e, unhide hT2, unhide HXl, unhide HY]
                simp only [List.append_assoc, List.nil_append, List.append_nil, List.cons_append]
              · rw [unhide ZK1, List.map_append]
                exact hB8
          · simp only [List.getElem_toArray, List.getElem_cons_zero, List.getElem_cons_succ, Act.put, List.setIfInBounds_toArray, List.set_cons_zero, List.set_cons_succ]
            refine wpO_buildOne 22 _ (by rfl) (.agg us.toArray) _ (by rfl) (unhide hbd) ?_
            rw [← eX]
            refine ⟨hSX, ?_⟩
            simp only [List.getElem_toArray, List.getElem_cons_zero, List.getElem_cons_succ, Act.put, List.setIfInBounds_toArray, List.set_cons_zero, List.set_cons_succ]
            refine rgn.one (i := 1) _ rfl (by kernel_rfl) (by rfl) ?_
            simp only [List.getElem_toArray, List.getElem_cons_zero, List.getElem_cons_succ, Act.put, List.setIfInBounds_toArray, List.set_cons_zero, List.set_cons_succ]
            refine wpO_load1 22 _ (by rfl) _ (.slice aj0 nj0 cj0) (by rfl) (loadSV X1 w1.heap.size 6 _ c6x) ?_
            refine ⟨hSX, ?_⟩
            simp only [List.getElem_toArray, List.getElem_cons_zero, List.getElem_cons_succ, Act.put, List.setIfInBounds_toArray, List.set_cons_zero, List.set_cons_succ]
            refine rgn.one (i := 7) _ rfl (by kernel_rfl) (by rfl) ?_
            simp only [List.getElem_toArray, List.getElem_cons_zero, List.getElem_cons_succ, Act.put, List.setIfInBounds_toArray, List.set_cons_zero, List.set_cons_succ]
            rw [eX]
            refine wpO_bl hbase _ _ (by rfl) (by rfl) v us (unhide hv1) _ rfl (by rfl) (by rw [hKl]; omega) ?_
            intro g nn cc w4 hB4 hnn
            clear hnn
            have e6 : w4.cell? ⟨w1.heap.size, 6, none⟩ = some (.slice aj0 nj0 cj0) := hB4.cl 6 _ rfl
            have f6 : w4.frozen? ⟨w1.heap.size, 6, none⟩ = false := (hB4.tl 6 (by omega)).2
            refine ⟨hB4.bel, ?_⟩
            have hS0 := hB4.bel
            simp only [List.getElem_toArray, List.getElem_cons_zero, List.getElem_cons_succ, Act.put, List.setIfInBounds_toArray, List.set_cons_zero, List.set_cons_succ]
            refine rgn.take (i := 8) _ (.pointer (some ⟨w1.heap.size, 6, none⟩)) rfl (by kernel_rfl) (by kernel_rfl) (by kernel_rfl) (fun _ _ _ h => h) (by rfl) hS0 (fun w' hw' => by go_simp) ?_
            simp only [List.getElem_toArray, List.getElem_cons_zero, List.getElem_cons_succ, Act.put, List.setIfInBounds_toArray, List.set_cons_zero, List.set_cons_succ]
            refine rgn.one (i := 9) _ rfl (by kernel_rfl) (by rfl) ?_
            simp only [List.getElem_toArray, List.getElem_cons_zero, List.getElem_cons_succ, Act.put, List.setIfInBounds_toArray, List.set_cons_zero, List.set_cons_succ]
            have hB5 := hide (hB4.putL (.slice (some ⟨g, 0, none⟩) nn cc))
            clear hB4 hS0 hbase hSX eX
            go_wp2_with fail
            refine ⟨(unhide hB5).bel, ?_⟩
            refine wpAnyH_done (by kernel_rfl) ?_ _
            refine NoPanic.normal ?_
            obtain ⟨w5, e5⟩ : ∃ w5, w5 = w4.setCells w1.heap.size 6 [.slice (some ⟨g, 0, none⟩) nn cc] := ⟨_, rfl⟩
            rw [← e5] at hB5
            first | rw [← e5] | rw [show w4.setCell ⟨w1.heap.size, 6, none⟩ (.slice (some ⟨g, 0, none⟩) nn cc) = w5 from e5.symm]
            clear e5 e6 f6
            have c7' : w5.cell? ⟨w1.heap.size + 1, 7, none⟩ = some sm := (unhide hB5).cm 7 _ rfl
            have hbase2 := (unhide hB5).below ((Below.refl _ w5).drew)
            have hbd2 := buildM nm (unhide hv1) ({ w5 with drawn := w5.drawn + 1 } : World)
            have s5 := (unhide hB5).siz
            have hS0 : Below w1.heap.size w1 ({ w5 with drawn := w5.drawn + 1 } : World) := hbase2.bel
            obtain ⟨X2, eX2⟩ : ∃ X2, X2 = ({ w5 with drawn := w5.drawn + 1 } : World).alloc (.cells (Value.string nm :: us).toArray 45) := ⟨_, rfl⟩
            have hSX2 : Below w1.heap.size w1 X2 := by rw [eX2]; exact hS0.alloc (show w1.heap.size ≤ w5.heap.size by omega) _
            have bX2 : Below w5.heap.size w5 X2 := by rw [eX2]; exact (Below.refl w5.heap.size w5).drew.alloc (Nat.le_refl _) _
            have c7x := keepC bX2 (show w1.heap.size + 1 < w5.heap.size by omega) c7'
            go_wp2_with fail
            refine wp_region_noPanic ?_
            refine wp_region_held (S := fun w' => Below w1.heap.size w1 w') mixed ?_
            refine wpAnyH_take (i := 0) (v := ?v33) rfl (by kernel_rfl) (by kernel_rfl) (by kernel_rfl) (fun _ _ _ h => h) (Or.inl ⟨by rfl, ?hy33⟩) hS0 ?_
            case hy33 => (intro w' hw';  go_simp; try with_reducible rfl)
            simp only [List.getElem_toArray, List.getElem_cons_zero, List.getElem_cons_succ, Act.put, List.setIfInBounds_toArray, List.set_cons_zero, List.set_cons_succ]
            refine wpAnyH_take (i := 2) (v := ?v34) rfl (by kernel_rfl) (by kernel_rfl) (by kernel_rfl) (fun _ _ _ h => h) (Or.inl ⟨by rfl, ?hy34⟩) hS0 ?_
            case hy34 => (intro w' hw'; have cn := (hw'.cell (p := ⟨b', off' + k, none⟩) (show b' < w1.heap.size by omega)).trans (unhide hnw1); go_simp; try with_reducible rfl)
            simp only [List.getElem_toArray, List.getElem_cons_zero, List.getElem_cons_succ, Act.put, List.setIfInBounds_toArray, List.set_cons_zero, List.set_cons_succ]
            refine wpAnyH_take (i := 3) (v := ?v35) rfl (by kernel_rfl) (by kernel_rfl) (by kernel_rfl) (fun _ _ _ h => h) (Or.inl ⟨by rfl, ?hy35⟩) hS0 ?_
            case hy35 => (intro w' hw'; have cn := (hw'.cell (p := ⟨b', off' + k, none⟩) (show b' < w1.heap.size by omega)).trans (unhide hnw1); go_simp; try with_reducible rfl)
            simp only [List.getElem_toArray, List.getElem_cons_zero, List.getElem_cons_succ, Act.put, List.setIfInBounds_toArray, List.set_cons_zero, List.set_cons_succ]
            refine wpAnyH_take (i := 4) (v := ?v36) rfl (by kernel_rfl) (by kernel_rfl) (by kernel_rfl) (fun _ _ _ h => h) (Or.inl ⟨by rfl, ?hy36⟩) hS0 ?_
            case hy36 => (intro w' hw'; have cn := (hw'.cell (p := ⟨b', off' + k, none⟩) (show b' < w1.heap.size by omega)).trans (unhide hnw1); go_simp; try with_reducible rfl)
            simp only [List.getElem_toArray, List.getElem_cons_zero, List.getElem_cons_succ, Act.put, List.setIfInBounds_toArray, List.set_cons_zero, List.set_cons_succ]
            refine wpAnyH_take (i := 5) (v := ?v37) rfl (by kernel_rfl) (by kernel_rfl) (by kernel_rfl) (fun _ _ _ h => h) (Or.inl ⟨by rfl, ?hy37⟩) hS0 ?_
            case hy37 => (intro w' hw'; have cn := (hw'.cell (p := ⟨b', off' + k, none⟩) (show b' < w1.heap.size by omega)).trans (unhide hnw1); go_simp; try with_reducible rfl)
            simp only [List.getElem_toArray, List.getElem_cons_zero, List.getElem_cons_succ, Act.put, List.setIfInBounds_toArray, List.set_cons_zero, List.set_cons_succ]
            refine wpAnyH_take (i := 6) (v := ?v38) rfl (by kernel_rfl) (by kernel_rfl) (by kernel_rfl) (fun _ _ _ h => h) (Or.inl ⟨by rfl, ?hy38⟩) hS0 ?_
            case hy38 => (intro w' hw';  go_simp; try with_reducible rfl)
            simp only [List.getElem_toArray, List.getElem_cons_zero, List.getElem_cons_succ, Act.put, List.setIfInBounds_toArray, List.set_cons_zero, List.set_cons_succ]
            refine wpAnyH_take (i := 7) (v := ?v39) rfl (by kernel_rfl) (by kernel_rfl) (by kernel_rfl) (fun _ _ _ h => h) (Or.inl ⟨by rfl, ?hy39⟩) hS0 ?_
            case hy39 => (intro w' hw';  go_simp; try with_reducible rfl)
            simp only [List.getElem_toArray, List.getElem_cons_zero, List.getElem_cons_succ, Act.put, List.setIfInBounds_toArray, List.set_cons_zero, List.set_cons_succ]
            refine wpAnyH_take (i := 8) (v := ?v40) rfl (by kernel_rfl) (by kernel_rfl) (by kernel_rfl) (fun _ _ _ h => h) (Or.inl ⟨by rfl, ?hy40⟩) hS0 ?_
            case hy40 => (intro w' hw';  go_simp; try with_reducible rfl)
            simp only [List.getElem_toArray, List.getElem_cons_zero, List.getElem_cons_succ, Act.put, List.setIfInBounds_toArray, List.set_cons_zero, List.set_cons_succ]
            refine wpAnyH_take (i := 9) rfl (by kernel_rfl) (by kernel_rfl) (by kernel_rfl) (fun _ _ _ h => h) (yieldsIf_load_mid (by rfl) 29 _ (by rfl) p (off + k * 8) (by rfl) us _ (fun w' hw' => range_below (unhide hrw1) hw' (show p < w1.heap.size by omega)) Tryz.underlying29 (by rfl) (unhide iu)) hS0 ?_
            simp only [List.getElem_toArray, List.getElem_cons_zero, List.getElem_cons_succ, Act.put, List.setIfInBounds_toArray, List.set_cons_zero, List.set_cons_succ]
            refine rgn.take (i := 10) _ (.agg (Value.string nm :: us).toArray) rfl (by kernel_rfl) (by kernel_rfl) (by kernel_rfl) (fun _ _ _ h => h) (by rfl) hS0 (fun w' hw' => runM10 nm (unhide hv1) _ _ (by rfl) (by rfl) (by rfl) w') ?_
            simp only [List.getElem_toArray, List.getElem_cons_zero, List.getElem_cons_succ, Act.put, List.setIfInBounds_toArray, List.set_cons_zero, List.set_cons_succ]
            refine rgn.two (i := 1) (j := 11) _ _ rfl rfl (by kernel_rfl) (by rfl) (by rfl) ?_ ?_
            · simp only [List.getElem_toArray, List.getElem_cons_zero, List.getElem_cons_succ, Act.put, List.setIfInBounds_toArray, List.set_cons_zero, List.set_cons_succ]
              clear c7x
              go_wp2_with fail
              refine ⟨hS0, ?_⟩
              refine rgn.one (i := 11) _ rfl (by kernel_rfl) (by rfl) ?_
              simp only [List.getElem_toArray, List.getElem_cons_zero, List.getElem_cons_succ, Act.put, List.setIfInBounds_toArray, List.set_cons_zero, List.set_cons_succ]
              refine wpO_buildOne 27 _ (by rfl) (.agg (Value.string nm :: us).toArray) _ (by rfl) hbd2 ?_
              rw [← eX2]
              refine ⟨hSX2, ?_⟩
              simp only [List.getElem_toArray, List.getElem_cons_zero, List.getElem_cons_succ, Act.put, List.setIfInBounds_toArray, List.set_cons_zero, List.set_cons_succ]
              refine rgn.one (i := 12) _ rfl (by kernel_rfl) (by rfl) ?_
              simp only [List.getElem_toArray, List.getElem_cons_zero, List.getElem_cons_succ, Act.put, List.setIfInBounds_toArray, List.set_cons_zero, List.set_cons_succ]
              rw [eX2]
              refine wpO_bm hbase2 _ _ (by rfl) (by rfl) (nm, v) us hnz (unhide hv1) _ rfl (by rfl) (by omega) ?_
              intro g2 nn2 cc2 w6 hB6 hnn2
              clear hnn2
              have e7 : w6.cell? ⟨w1.heap.size + 1, 7, none⟩ = some sm := hB6.cm 7 _ rfl
              have f7 : w6.frozen? ⟨w1.heap.size + 1, 7, none⟩ = false := (hB6.tm 7 (by omega)).2
              refine ⟨hB6.bel, ?_⟩
              have hS0 := hB6.bel
              simp only [List.getElem_toArray, List.getElem_cons_zero, List.getElem_cons_succ, Act.put, List.setIfInBounds_toArray, List.set_cons_zero, List.set_cons_succ]
              refine rgn.take (i := 13) _ (.pointer (some ⟨w1.heap.size + 1, 7, none⟩)) rfl (by kernel_rfl) (by kernel_rfl) (by kernel_rfl) (fun _ _ _ h => h) (by rfl) hS0 (fun w' hw' => by go_simp) ?_
              simp only [List.getElem_toArray, List.getElem_cons_zero, List.getElem_cons_succ, Act.put, List.setIfInBounds_toArray, List.set_cons_zero, List.set_cons_succ]
              refine rgn.one (i := 14) _ rfl (by kernel_rfl) (by rfl) ?_
              simp only [List.getElem_toArray, List.getElem_cons_zero, List.getElem_cons_succ, Act.put, List.setIfInBounds_toArray, List.set_cons_zero, List.set_cons_succ]
              have hB7 := hide (hB6.putM (.slice (some ⟨g2, 0, none⟩) nn2 cc2))
              clear hB6 hS0 hbase2 hSX2 eX2 bX2 hbd2
              go_wp2_with fail
              refine ⟨(unhide hB7).bel, ?_⟩
              refine wpAnyH_done (by kernel_rfl) ?_ _
              refine NoPanic.normal ?_
              obtain ⟨w7, e7'⟩ : ∃ w7, w7 = w6.setCells (w1.heap.size + 1) 7 [.slice (some ⟨g2, 0, none⟩) nn2 cc2] := ⟨_, rfl⟩
              rw [← e7'] at hB7
              first | rw [← e7'] | rw [show w6.setCell ⟨w1.heap.size + 1, 7, none⟩ (.slice (some ⟨g2, 0, none⟩) nn2 cc2) = w7 from e7'.symm]
              clear e7' e7 f7
              have cv : (convert 34 9 (.slice aa lw ca)).run Tryz.prog w7 = .ok (.string Y) w7 := unhide CT w7 (fun b h1 h2 => (unhide hB7).zeq b ⟨h1, h2⟩)
              have hB8 := hide ((unhide hB7).plain)
              clear hB7 hB5 CT c7'
              go_wp2
              refine ⟨⟨k + 1, _, _, .slice (some ⟨g, 0, none⟩) nn cc, .slice (some ⟨g2, 0, none⟩) nn2 cc2, by omega, by go_num, rfl, rfl, ?_, ?_, ?_⟩, by simp only [intOf]; omega⟩
              · rw [unhide ZK1, txK_snoc, unhide hcom]
                refine hide ?_
                rw [app_listJ, s1e, unhide hT1, unhide HY]
                simp only [List.append_assoc, List.nil_append, List.append_nil, List.cons_append]
              · rw [unhide ZK1, nmK_snoc, unhide hcom]
                refine hide ?_
                rw [app_listJ, app_listJ, app_listJ, s2e, unhide hT2, unhide HXl, unhide HY]
                simp only [List.append_assoc, List.nil_append, List.append_nil, List.cons_append]
              · rw [unhide ZK1, List.map_append]
                exact hB8
            · simp only [List.getElem_toArray, List.getElem_cons_zero, List.getElem_cons_succ, Act.put, List.setIfInBounds_toArray, List.set_cons_zero, List.set_cons_succ]
              refine wpO_buildOne 27 _ (by rfl) (.agg (Value.string nm :: us).toArray) _ (by rfl) hbd2 ?_
              rw [← eX2]
              refine ⟨hSX2, ?_⟩
              simp only [List.getElem_toArray, List.getElem_cons_zero, List.getElem_cons_succ, Act.put, List.setIfInBounds_toArray, List.set_cons_zero, List.set_cons_succ]
              refine rgn.one (i := 1) _ rfl (by kernel_rfl) (by rfl) ?_
              simp only [List.getElem_toArray, List.getElem_cons_zero, List.getElem_cons_succ, Act.put, List.setIfInBounds_toArray, List.set_cons_zero, List.set_cons_succ]
              refine wpO_load1 27 _ (by rfl) _ sm (by rfl) (loadSM X2 (w1.heap.size + 1) 7 sm c7x) ?_
              refine ⟨hSX2, ?_⟩
              simp only [List.getElem_toArray, List.getElem_cons_zero, List.getElem_cons_succ, Act.put, List.setIfInBounds_toArray, List.set_cons_zero, List.set_cons_succ]
              refine rgn.one (i := 12) _ rfl (by kernel_rfl) (by rfl) ?_
              simp only [List.getElem_toArray, List.getElem_cons_zero, List.getElem_cons_succ, Act.put, List.setIfInBounds_toArray, List.set_cons_zero, List.set_cons_succ]
              rw [eX2]
              refine wpO_bm hbase2 _ _ (by rfl) (by rfl) (nm, v) us hnz (unhide hv1) _ rfl (by rfl) (by omega) ?_
              intro g2 nn2 cc2 w6 hB6 hnn2
              clear hnn2
              have e7 : w6.cell? ⟨w1.heap.size + 1, 7, none⟩ = some sm := hB6.cm 7 _ rfl
              have f7 : w6.frozen? ⟨w1.heap.size + 1, 7, none⟩ = false := (hB6.tm 7 (by omega)).2
              refine ⟨hB6.bel, ?_⟩
              have hS0 := hB6.bel
              simp only [List.getElem_toArray, List.getElem_cons_zero, List.getElem_cons_succ, Act.put, List.setIfInBounds_toArray, List.set_cons_zero, List.set_cons_succ]
              refine rgn.take (i := 13) _ (.pointer (some ⟨w1.heap.size + 1, 7, none⟩)) rfl (by kernel_rfl) (by kernel_rfl) (by kernel_rfl) (fun _ _ _ h => h) (by rfl) hS0 (fun w' hw' => by go_simp) ?_
              simp only [List.getElem_toArray, List.getElem_cons_zero, List.getElem_cons_succ, Act.put, List.setIfInBounds_toArray, List.set_cons_zero, List.set_cons_succ]
              refine rgn.one (i := 14) _ rfl (by kernel_rfl) (by rfl) ?_
              simp only [List.getElem_toArray, List.getElem_cons_zero, List.getElem_cons_succ, Act.put, List.setIfInBounds_toArray, List.set_cons_zero, List.set_cons_succ]
              have hB7 := hide (hB6.putM (.slice (some ⟨g2, 0, none⟩) nn2 cc2))
              clear hB6 hS0 hbase2 hSX2 eX2 bX2 hbd2
              go_wp2_with fail
              refine ⟨(unhide hB7).bel, ?_⟩
              refine wpAnyH_done (by kernel_rfl) ?_ _
              refine NoPanic.normal ?_
              obtain ⟨w7, e7'⟩ : ∃ w7, w7 = w6.setCells (w1.heap.size + 1) 7 [.slice (some ⟨g2, 0, none⟩) nn2 cc2] := ⟨_, rfl⟩
              rw [← e7'] at hB7
              first | rw [← e7'] | rw [show w6.setCell ⟨w1.heap.size + 1, 7, none⟩ (.slice (some ⟨g2, 0, none⟩) nn2 cc2) = w7 from e7'.symm]
              clear e7' e7 f7
              have cv : (convert 34 9 (.slice aa lw ca)).run Tryz.prog w7 = .ok (.string Y) w7 := unhide CT w7 (fun b h1 h2 => (unhide hB7).zeq b ⟨h1, h2⟩)
              have hB8 := hide ((unhide hB7).plain)
              clear hB7 hB5 CT c7'
              go_wp2
              refine ⟨⟨k + 1, _, _, .slice (some ⟨g, 0, none⟩) nn cc, .slice (some ⟨g2, 0, none⟩) nn2 cc2, by omega, by go_num, rfl, rfl, ?_, ?_, ?_⟩, by simp only [intOf]; omega⟩
              · rw [unhide ZK1, txK_snoc, unhide hcom]
                refine hide ?_
                rw [app_listJ, s1e, unhide hT1, unhide HY]
                simp only [List.append_assoc, List.nil_append, List.append_nil, List.cons_append]
              · rw [unhide ZK1, nmK_snoc, unhide hcom]
                refine hide ?_
                rw [app_listJ, app_listJ, app_listJ, s2e, unhide hT2, unhide HXl, unhide HY]
                simp only [List.append_assoc, List.nil_append, List.append_nil, List.cons_append]
              · rw [unhide ZK1, List.map_append]
                exact hB8
      · have hno : E ≠ 0 ∨ F ≠ 0 := by
          by_cases h1 : E = 0
          · right
            rw [hFe]
            unfold txE
            cases hc : cln nm
            · simp
            · exact absurd (okB_iff.2 ⟨by rw [unhide JF]; exact h1, hc⟩) hgood
          · exact .inl h1
        have ZK1 := hide (show (Z.take (k + 1)).filter okB = K by rw [unhide ZK, if_neg hgood])
        clear ZK hXe hFe HW2
        by_cases h1 : E = 0
        · have h2 : F ≠ 0 := hno.resolve_left (fun h => h h1)
          subst h1
          clear hno JF
          go_wp2
          refine ⟨⟨k + 1, S1, S2, sl, sm, by omega, by go_num, rfl, rfl, ?_, ?_, ?_⟩, by simp only [intOf]; omega⟩
          · rw [unhide ZK1]; exact hT1
          · rw [unhide ZK1]; exact hT2
          · rw [unhide ZK1]; exact hS3
        · clear hno JF
          go_wp2
          refine ⟨⟨k + 1, S1, S2, sl, sm, by omega, by go_num, rfl, rfl, ?_, ?_, ?_⟩, by simp only [intOf]; omega⟩
          · rw [unhide ZK1]; exact hT1
          · rw [unhide ZK1]; exact hT2
          · rw [unhide ZK1]; exact hS3
    · have hTl := unhide hT1
      have hTm := unhide hT2
      have hkf := (unhide hKK).1
      have hko := (unhide hKK).2.1
      have hks := (unhide hKK).2.2.1
      have hkl := (unhide hKK).2.2.2
      have vL := hide ((unhide hS).valL (by omega))
      have wL : wtV (lV K) ≤ 2097153 := by
        unfold lV
        rw [wtV, wt_of, List.map_map]
        have : ∀ L : List (ByteArray × Vl), (L.map (wtV ∘ fun q => q.2)).sum ≤ (L.map (fun q => q.1.size + wtV q.2)).sum := by
          intro L
          induction L with
          | nil => simp
          | cons x r ih => simp only [List.map_cons, List.sum_cons, Function.comp_def] at ih ⊢; omega
        have := this K
        have e0 : (⟨#[]⟩ : ByteArray).size = 0 := rfl
        have e1 : wtF Fls.nil = 0 := rfl
        omega
      have fL : FlV (lV K) := by
        unfold lV FlV
        refine ⟨by omega, by omega, FlI.mk fun v hv => ?_, by unfold FlF; trivial⟩
        rw [of_listV] at hv
        obtain ⟨q, hq, rfl⟩ := List.mem_map.1 hv
        exact hkf q hq
      have wM : wtV (oV K) ≤ 2097153 := by
        unfold oV
        rw [wtV, wt_ofF]
        have e0 : (⟨#[]⟩ : ByteArray).size = 0 := rfl
        have e1 : wtI Vls.nil = 0 := rfl
        omega
      have fM : FlV (oV K) := by
        unfold oV FlV
        refine ⟨by omega, by omega, by unfold FlI; trivial, FlF.mk fun q hq => ?_⟩
        rw [of_listF] at hq
        exact hkf q hq
      have jL := jf_lV hko
      have jM := jf_oV hko
      have eL : wv (lV K) = S1.data.toList ++ [93] := by unfold wv; rw [jL, if_pos rfl, js_lV, hTl]
      have eM : (K.map (fun q => q.1.data.toList)).Nodup → wv (oV K) = S2.data.toList ++ [125] := fun h => by unfold wv; rw [jM.1 h, if_pos rfl, js_oV, hTm]
      have eM0 : ¬ (K.map (fun q => q.1.data.toList)).Nodup → wv (oV K) = [] := fun h => by unfold wv; rw [jM.2 h, if_neg (by decide)]
      have E2 := hide ((unhide E1).below (unhide hS).bel)
      have hbw : Below w.heap.size w wr := (unhide HB1).trans ((unhide hS).bel.mono s1)
      have PP := hide (And.intro fL (And.intro wL (And.intro fM (And.intro wM (And.intro jL (And.intro jM (And.intro eL (And.intro eM eM0))))))))
      have rl := hide ((unhide hS).cl)
      have i8 : (Tryz.prog.info? 29).map (·.size) = some (brL sl).length := infoV
      have i8m : (Tryz.prog.info? 29).map (·.size) = some (brM sm).length := infoV
      have I8 := hide (And.intro i8 i8m)
      have hstop : ¬ ((k : Int) < (n0 : Int)) ∨ ((k : Int) < (n0 : Int) ∧ ¬ ((k : Int) < (n1 : Int))) := by omega
      clear hTl hTm hkf hko hks hkl wL fL wM fM jL jM eL eM eM0 i8 i8m hlt hk
      rcases hstop with h | ⟨h, h'⟩
      · go_wp2_with (first
          | refine wpList_load_mid (by rfl) 29 _ (by rfl) w1.heap.size 0 (by rfl) (brL sl) _ (unhide rl) Tryz.underlying29 (by rfl) (unhide I8).1 ?_)
        refine (write_any (lV K) (brL sl) wr (unhide E2) (unhide vL) (unhide PP).1 (by have := (unhide PP).2.1; omega)).mono ?_
        rw [(unhide PP).2.2.2.2.1, (unhide PP).2.2.2.2.2.2.1]
        rintro e w2 ⟨ra, rfl, ho, b2⟩
        obtain ⟨aa, ca, rfl, ct⟩ := own_text ho rfl
        have cv := ct w2 (Below.refl _ _)
        rw [str_end S1 _ 93 rfl] at cv
        have hS2 := hide ((unhide hS).below b2)
        have rm := hide ((unhide hS2).cm)
        have vM := hide ((unhide hS2).valM)
        have E3 := hide ((unhide E2).below b2)
        have hbw2 := hbw.trans (b2.mono hbw.size)
        generalize (S1.data.toList ++ [93]).length = l1 at *
        clear ho ct rl vL E2 b2 hbw hS
        go_wp2_with (first
          | refine wpList_load_mid (by rfl) 29 _ (by rfl) (w1.heap.size + 1) 0 (by rfl) (brM sm) _ (unhide rm) Tryz.underlying29 (by rfl) (unhide I8).2 ?_)
        clear cv
        by_cases hn : (K.map (fun q => q.1.data.toList)).Nodup
        · refine (write_any (oV K) (brM sm) w2 (unhide E3) (unhide vM).1 (unhide PP).2.2.1 (by have := (unhide PP).2.2.2.1; omega)).mono ?_
          rw [(unhide PP).2.2.2.2.2.1.1 hn, (unhide PP).2.2.2.2.2.2.2.1 hn]
          rintro e w3 ⟨rb, rfl, ho, b3⟩
          obtain ⟨ab, cb, rfl, ct⟩ := own_text ho rfl
          have hS3 := hide ((unhide hS2).below b3)
          have vM3 := (unhide hS3).valM
          obtain ⟨-, aj, cj, hsm, hcj, hfl⟩ := vM3
          have kK := (unhide hKK).2.2.2
          have TW := hide (twice_ok (Fls.of K) aj K.length cj w3 hfl (by omega) hcj)
          have c7 : w3.cell? ⟨w1.heap.size + 1, 7, none⟩ = some (.slice aj K.length cj) := by rw [← hsm]; exact (unhide hS3).cm 7 _ rfl
          have hbw3 := hide (hbw2.trans (b3.mono hbw2.size))
          have CT2 := hide ct
          rw [str_end S2 _ 125 rfl] at CT2
          generalize (S2.data.toList ++ [125]).length = l2 at *
          clear ho ct hsm hcj hfl rm vM E3 b3 hS2 hbw2
          go_wp2_with fail
          refine (unhide TW).mono ?_
          rintro e w4 ⟨b, rfl, hb, b4⟩
          have cv := unhide CT2 w4 b4
          have hfin := hide ((unhide hbw3).trans (b4.mono (unhide hbw3).size))
          have hb0 : b = false := by
            unfold TwP at hb
            rw [of_listF] at hb
            cases b
            · rfl
            · exact absurd hn (by rw [← hb])
          subst hb0
          clear hb TW CT2 c7 b4 hbw3 hS3
          go_wp2
          go_ret
          first
            | exact ⟨rfl, unhide hfin⟩
            | exact ⟨by simp, unhide hfin⟩
        · refine (write_any (oV K) (brM sm) w2 (unhide E3) (unhide vM).1 (unhide PP).2.2.1 (by have := (unhide PP).2.2.2.1; omega)).mono ?_
          rw [(unhide PP).2.2.2.2.2.1.2 hn, (unhide PP).2.2.2.2.2.2.2.2 hn]
          rintro e w3 ⟨rb, rfl, ho, b3⟩
          obtain ⟨ab, cb, rfl, ct⟩ := own_text ho rfl
          have hS3 := hide ((unhide hS2).below b3)
          have vM3 := (unhide hS3).valM
          obtain ⟨-, aj, cj, hsm, hcj, hfl⟩ := vM3
          have kK := (unhide hKK).2.2.2
          have TW := hide (twice_ok (Fls.of K) aj K.length cj w3 hfl (by omega) hcj)
          have c7 : w3.cell? ⟨w1.heap.size + 1, 7, none⟩ = some (.slice aj K.length cj) := by rw [← hsm]; exact (unhide hS3).cm 7 _ rfl
          have hbw3 := hide (hbw2.trans (b3.mono hbw2.size))
          have CT2 := hide ct
          simp only [List.length_nil]
          clear ho ct hsm hcj hfl rm vM E3 b3 hS2 hbw2
          go_wp2_with fail
          refine (unhide TW).mono ?_
          rintro e w4 ⟨b, rfl, hb, b4⟩
          have cv := unhide CT2 w4 b4
          have hfin := hide ((unhide hbw3).trans (b4.mono (unhide hbw3).size))
          have hb0 : b = true := by
            unfold TwP at hb
            rw [of_listF] at hb
            cases b
            · exact absurd (show ¬ (false = true) by decide) (fun h => by rw [hb] at h; exact h hn)
            · rfl
          subst hb0
          clear hb TW CT2 c7 b4 hbw3 hS3
          go_wp2
          go_ret
          first
            | exact ⟨rfl, unhide hfin⟩
            | exact ⟨by simp, unhide hfin⟩
      · go_wp2_with (first
          | refine wpList_load_mid (by rfl) 29 _ (by rfl) w1.heap.size 0 (by rfl) (brL sl) _ (unhide rl) Tryz.underlying29 (by rfl) (unhide I8).1 ?_)
        refine (write_any (lV K) (brL sl) wr (unhide E2) (unhide vL) (unhide PP).1 (by have := (unhide PP).2.1; omega)).mono ?_
        rw [(unhide PP).2.2.2.2.1, (unhide PP).2.2.2.2.2.2.1]
        rintro e w2 ⟨ra, rfl, ho, b2⟩
        obtain ⟨aa, ca, rfl, ct⟩ := own_text ho rfl
        have cv := ct w2 (Below.refl _ _)
        rw [str_end S1 _ 93 rfl] at cv
        have hS2 := hide ((unhide hS).below b2)
        have rm := hide ((unhide hS2).cm)
        have vM := hide ((unhide hS2).valM)
        have E3 := hide ((unhide E2).below b2)
        have hbw2 := hbw.trans (b2.mono hbw.size)
        generalize (S1.data.toList ++ [93]).length = l1 at *
        clear ho ct rl vL E2 b2 hbw hS
        go_wp2_with (first
          | refine wpList_load_mid (by rfl) 29 _ (by rfl) (w1.heap.size + 1) 0 (by rfl) (brM sm) _ (unhide rm) Tryz.underlying29 (by rfl) (unhide I8).2 ?_)
        clear cv
        by_cases hn : (K.map (fun q => q.1.data.toList)).Nodup
        · refine (write_any (oV K) (brM sm) w2 (unhide E3) (unhide vM).1 (unhide PP).2.2.1 (by have := (unhide PP).2.2.2.1; omega)).mono ?_
          rw [(unhide PP).2.2.2.2.2.1.1 hn, (unhide PP).2.2.2.2.2.2.2.1 hn]
          rintro e w3 ⟨rb, rfl, ho, b3⟩
          obtain ⟨ab, cb, rfl, ct⟩ := own_text ho rfl
          have hS3 := hide ((unhide hS2).below b3)
          have vM3 := (unhide hS3).valM
          obtain ⟨-, aj, cj, hsm, hcj, hfl⟩ := vM3
          have kK := (unhide hKK).2.2.2
          have TW := hide (twice_ok (Fls.of K) aj K.length cj w3 hfl (by omega) hcj)
          have c7 : w3.cell? ⟨w1.heap.size + 1, 7, none⟩ = some (.slice aj K.length cj) := by rw [← hsm]; exact (unhide hS3).cm 7 _ rfl
          have hbw3 := hide (hbw2.trans (b3.mono hbw2.size))
          have CT2 := hide ct
          rw [str_end S2 _ 125 rfl] at CT2
          generalize (S2.data.toList ++ [125]).length = l2 at *
          clear ho ct hsm hcj hfl rm vM E3 b3 hS2 hbw2
          go_wp2_with fail
          refine (unhide TW).mono ?_
          rintro e w4 ⟨b, rfl, hb, b4⟩
          have cv := unhide CT2 w4 b4
          have hfin := hide ((unhide hbw3).trans (b4.mono (unhide hbw3).size))
          have hb0 : b = false := by
            unfold TwP at hb
            rw [of_listF] at hb
            cases b
            · rfl
            · exact absurd hn (by rw [← hb])
          subst hb0
          clear hb TW CT2 c7 b4 hbw3 hS3
          go_wp2
          go_ret
          first
            | exact ⟨rfl, unhide hfin⟩
            | exact ⟨by simp, unhide hfin⟩
        · refine (write_any (oV K) (brM sm) w2 (unhide E3) (unhide vM).1 (unhide PP).2.2.1 (by have := (unhide PP).2.2.2.1; omega)).mono ?_
          rw [(unhide PP).2.2.2.2.2.1.2 hn, (unhide PP).2.2.2.2.2.2.2.2 hn]
          rintro e w3 ⟨rb, rfl, ho, b3⟩
          obtain ⟨ab, cb, rfl, ct⟩ := own_text ho rfl
          have hS3 := hide ((unhide hS2).below b3)
          have vM3 := (unhide hS3).valM
          obtain ⟨-, aj, cj, hsm, hcj, hfl⟩ := vM3
          have kK := (unhide hKK).2.2.2
          have TW := hide (twice_ok (Fls.of K) aj K.length cj w3 hfl (by omega) hcj)
          have c7 : w3.cell? ⟨w1.heap.size + 1, 7, none⟩ = some (.slice aj K.length cj) := by rw [← hsm]; exact (unhide hS3).cm 7 _ rfl
          have hbw3 := hide (hbw2.trans (b3.mono hbw2.size))
          have CT2 := hide ct
          simp only [List.length_nil]
          clear ho ct hsm hcj hfl rm vM E3 b3 hS2 hbw2
          go_wp2_with fail
          refine (unhide TW).mono ?_
          rintro e w4 ⟨b, rfl, hb, b4⟩
          have cv := unhide CT2 w4 b4
          have hfin := hide ((unhide hbw3).trans (b4.mono (unhide hbw3).size))
          have hb0 : b = true := by
            unfold TwP at hb
            rw [of_listF] at hb
            cases b
            · exact absurd (show ¬ (false = true) by decide) (fun h => by rw [hb] at h; exact h hn)
            · rfl
          subst hb0
          clear hb TW CT2 c7 b4 hbw3 hS3
          go_wp2
          go_ret
          first
            | exact ⟨rfl, unhide hfin⟩
            | exact ⟨by simp, unhide hfin⟩
end Go.Proofs.YtechaplindbfoaaGreatDoor.jsn
