import Derived.Test.YtdmfbahnhkdamaaGreatNes14
import Derived.Test.YtdmfbahnhkdamaaGreatNes15
import Derived.Test.YtdmfbahnhkdamaaGreatNes16
import Derived.Test.YtdmfbahnhkdamaaGreatNes12
namespace Go.Proofs.YtdmfbahnhkdamaaGreat.cu
open Go.ChangeShapes Go.WideShapes Go.ChangeAt Go.RowKit
open ints (hide unhide)
open dt (Dt Kp RowAt Ow Grow OwIn)
open mem (Row)
open lx (toks chs cln)
set_option linter.unusedVariables false
set_option linter.unusedSimpArgs false
set_option linter.constructorNameAsVariable false
theorem bytesZ_appN (a b : ByteArray) : mem.bytesZ (a ++ b) = mem.bytesZ a ++ mem.bytesZ b := by simp [mem.bytesZ]
theorem conv_bytesN (s : ByteArray) (w : World) : ∃ cap W2, (convert 9 22 (.string s)).run Tryz.prog w = .ok (.slice (some ⟨w.heap.size, 0, none⟩) s.size cap) W2 ∧
    Row .u8 W2 (some ⟨w.heap.size, 0, none⟩) s.size cap (mem.bytesZ s) ∧ Below w.heap.size w W2 := by
  have h := run_bytes_of_string (P := Tryz.prog) w 9 22 5 s Tryz.underlying9 Tryz.underlying22 Tryz.underlying5
  refine ⟨_, _, h, ⟨mem.bytesZ_len s, grownCap_ge _ _ _ _, (fun e => by cases e), .inr ⟨w.heap.size, 0, rfl, by simp, fun i hi => ?_⟩⟩, (Below.refl _ _).drew.alloc (Nat.le_refl _) _⟩
  have e : (w.drew.alloc (.cells (bytesRow s (grownCap w s.size 0 5)) 5 ((bytesRow s (grownCap w s.size 0 5)).size, (bytesRow s (grownCap w s.size 0 5)).size + 1))).cell? ⟨w.drew.heap.size, 0 + i, none⟩ = (bytesRow s (grownCap w s.size 0 5))[0 + i]? := World.cell?_alloc_mark _ _ _ _ _
  refine e.trans ?_
  have hi' : i < s.data.size := hi
  unfold bytesRow mem.bytesZ
  rw [Nat.zero_add, Array.getElem?_append_left (by simpa using hi')]
  have e2 : (s.data.toList.map fun b => (b.toNat : Int)).getD i 0 = ((s.data[i]'hi').toNat : Int) := by simp [List.getD, Array.getElem?_eq_getElem hi']
  rw [e2, Array.getElem?_map, Array.getElem?_eq_getElem hi']
  rfl
theorem flt_formN {lo : Nat} {w : World} {C : Cu} {fs : List Value} (h : FltAt lo w C fs) : ∃ K fa fn fc, fs = [.int .i64 K, .slice fa fn fc, .slice none 0 0] ∧ (K = 0 → C.kd = 0 ∧ fa = none ∧ fn = 0 ∧ fc = 0) := by
  unfold FltAt at h
  by_cases hk : C.kd = 0
  · rw [if_pos hk] at h
    exact ⟨0, none, 0, 0, h, fun _ => ⟨hk, rfl, rfl, rfl⟩⟩
  · rw [if_neg hk] at h
    obtain ⟨b, _, _, e, _⟩ := h
    exact ⟨_, _, _, _, e, fun e => absurd e hk⟩
theorem put_flt {w : World} {b : Nat} {T : TypeId} (hb : w.heap[b]? = some (.cells #[.int .i64 0, .slice none 0 0, .slice none 0 0] T (0, 0))) (k : Nat) : (w.setCells b 0 [.int .i64 0, .slice none 0 0, .slice none 0 0]).heap[k]? = w.heap[k]? := by
  by_cases h : k = b
  · subst h
    rw [dt.setCells_at _ 0 w _ hb, hb]
    rfl
  · exact dt.heap_setCells b k h _ 0 w
theorem put_below {w0 w : World} {b : Nat} {T : TypeId} (h : Below w0.heap.size w0 w) (hb : w.heap[b]? = some (.cells #[.int .i64 0, .slice none 0 0, .slice none 0 0] T (0, 0))) : Below w0.heap.size w0 (w.setCells b 0 [.int .i64 0, .slice none 0 0, .slice none 0 0]) := by
  have q : Below 0 w0 (w.setCells b 0 [.int .i64 0, .slice none 0 0, .slice none 0 0]) := dt.below_setCells b _ 0 w (h.mono (Nat.zero_le _)) (Nat.zero_le _)
  exact ⟨q.os, q.tape, q.output, q.size, fun k hk => (put_flt hb k).trans (h.block k hk)⟩
theorem row_mid {w : World} {p off : Nat} {a : Value} {ds r : List Value} (h : RowAt w p off (a :: (ds ++ r))) : w.rangeAt p (off + 1) ds := fun i u hu => by
  have hi : i < ds.length := (List.getElem?_eq_some_iff.1 hu).1
  have h1 := h (i + 1) u (by rw [List.getElem?_cons_succ, List.getElem?_append_left hi]; exact hu)
  rw [show off + (i + 1) = off + 1 + i by omega] at h1
  exact h1
theorem blk_rng {w : World} {b : Nat} {l : List Value} {T : TypeId} (h : w.heap[b]? = some (.cells l.toArray T (0, 0))) : w.rangeAt b 0 l := fun i u hu => by
  rw [Nat.zero_add]
  exact (dt.cell_cells h i).trans (by simpa using hu)
theorem rng_below {w W : World} {b o : Nat} {cs : List Value} (h : w.rangeAt b o cs) (hb : Below w.heap.size w W) (hl : b < w.heap.size) : W.rangeAt b o cs := fun i u hu => (hb.cell (p := ⟨b, o + i, none⟩) hl).trans (h i u hu)
theorem eql_form {pl : Bool} {f : Nat} {d e : Dt} (h : EqL pl f d e) : ∃ k tx bl its fls ln co, d = litD k tx bl its fls ln co := by
  cases f with
  | zero => exact h.elim
  | succ f =>
    obtain ⟨k, tx, bl, its, _, fls, _, ln, co, _, _, h1, _⟩ := h
    exact ⟨k, tx, bl, _, _, ln, co, h1⟩
theorem readLG_some {z : List Int} {ct : Bool} {d : Int} (h : (readLG z ct d).2.kd = 0) : ∃ v, (readLG z ct d).1 = some v := by
  unfold readLG at h ⊢
  cases hv : (litF ct (toks z).length (newG z d)).1 with
  | none =>
    rw [hv] at h
    exact absurd h (litF_faults ct _ (newG z d) (newG_ok' z d) (Nat.le_add_right _ _) hv)
  | some v =>
    rw [hv] at h
    rw [if_pos (show (some v).isSome = true from rfl)] at h ⊢
    cases hf : (litF ct (toks z).length (newG z d)).2.finB with
    | true => exact ⟨v, by rw [if_pos rfl]⟩
    | false =>
      have h' : (litF ct (toks z).length (newG z d)).2.fin.kd = 0 := h
      unfold Cu.fin at h'
      rw [hf, if_neg (by decide)] at h'
      exact absurd h' (stop_kd _ _ (by decide))
set_option maxHeartbeats 8000000 in
set_option maxRecDepth 40000 in
theorem law_nests (a : Option Addr) (n c : Nat) (z : List Int) (ct : Bool) (d : Int) (a2 : Option Addr) (n2 c2 : Nat) (y : List Int) (w : World) (h : Row .u8 w a n c z) (hz : mem.Byt z) (hn : n ≤ 1048576) (h2 : Row .u8 w a2 n2 c2 y) (hy : mem.Byt y) (hn2 : n2 ≤ 1048576) (hd : (Lit.int .i64 d).wf = true) :
    Calls Tryz.prog 3 #[.agg #[.slice a n c, .bool ct, .int .i64 d], .slice a2 n2 c2] w fun e w' => e = .returned (.bool true) ∧ Below w.heap.size w w' := by
  have hFx := hide (fun W => fixed_ok W)
  have hwf := fun (x : Int) (hx : 0 ≤ x ∧ x ≤ 200) => (show (Lit.int .i64 x).wf = true by simp [Lit.wf, IntKind.min, IntKind.max, IntKind.signed, IntKind.bits]; omega)
  have HZ := hide (And.intro hz hy)
  have HZL := hide (And.intro h.len h2.len)
  have hS1 := hide (fun W (bb : Below w.heap.size w W) => mem.row_string (P := Tryz.prog) (h.below bb) 22 9 5 Tryz.underlying22 Tryz.underlying5 Tryz.underlying9)
  have hS2 := hide (fun W (bb : Below w.heap.size w W) => mem.row_string (P := Tryz.prog) (h2.below bb) 22 9 5 Tryz.underlying22 Tryz.underlying5 Tryz.underlying9)
  have hL0 := hide (fun W (bb : Below w.heap.size w W) x hx => readLitG_ok a n c z ct x W (h.below bb) (by omega) hz (hwf x hx))
  have hL1 := hide (fun W (bb : Below w.heap.size w W) x hx => readLitG_ok a2 n2 c2 y ct x W (h2.below bb) (by omega) hy (hwf x hx))
  replace hwf := hide hwf
  clear h h2 hz hy
  have bO := hide (fun o => show Below w.heap.size w (w.alloc o) from (Below.refl _ _).alloc (Nat.le_refl _) o)
  go_enter Tryz.func3, Tryz.ntmps3
  go_wp2_with fail
  go_region
  go_wp2_with fail
  refine ((unhide hFx) _).mono ?_
  rintro e w1 ⟨rfl, b1'⟩
  have b1 := ((unhide bO) _).drew.trans (b1'.mono ((unhide bO) _).size)
  clear hFx b1'
  go_wp2_with fail
  obtain ⟨L, hL⟩ : ∃ L, L = min (max d 0) 199 := ⟨_, rfl⟩
  have hLr : 0 ≤ L ∧ L ≤ 199 := by omega
  rw [← hL]
  clear hL
  refine ((unhide hL0) w1 b1 L (by omega)).mono ?_
  rintro e w2 ⟨cs1, F1, fs1, rfl, hpo1, hflt1, b2⟩
  have b12 := b1.trans (b2.mono b1.size)
  obtain ⟨k1, t1, bl1, ai1, ni1, ci1, af1, nf1, cf1, ln1, co1, rfl⟩ := hpo1.shape
  obtain ⟨K1, fa1, fn1, fc1, rfl, hK1⟩ := flt_formN hflt1
  have HP1 := hide hpo1
  have HK1 := hide hK1
  clear hpo1 hK1 hflt1 b1 b2
  obtain ⟨X, hX⟩ : ∃ X, X = (w2.alloc (.cells #[.int .i64 k1, .string t1, .bool bl1, .slice ai1 ni1 ci1, .slice af1 nf1 cf1, .int .i64 ln1, .int .i64 co1] 32)).alloc (.cells #[.int .i64 K1, .slice fa1 fn1 fc1, .slice none 0 0] 37) := ⟨_, rfl⟩
  have bX : Below w2.heap.size w2 X := by rw [hX]; exact two_alloc _ _ _
  have hXs : X.heap.size = w2.heap.size + 1 + 1 := by rw [hX]; simp
  have hX1 := (show X.heap[w2.heap.size]? = _ ∧ X.heap[w2.heap.size + 1]? = _ from by rw [hX]; exact two_at _ _ _ _ _)
  have bwX := b12.trans (bX.mono b12.size)
  have hcX := hide ((unhide hL1) X bwX L (by omega))
  have HX := hide hX
  have HX1 := hide (And.intro hX1 (And.intro bX bwX))
  clear hX hX1 bX bwX b12
  go_wp2_with fail
  rw [← unhide HX]
  clear HX
  refine (unhide hcX).mono ?_
  rintro e w3 ⟨cs2, F2, fs2, rfl, hpo2, hflt2, b3⟩
  obtain ⟨k2', t2, bl2, ai2, ni2, ci2, af2, nf2, cf2, ln2, co2, rfl⟩ := hpo2.shape
  obtain ⟨K2, fa2, fn2, fc2, rfl, hK2⟩ := flt_formN hflt2
  obtain ⟨hX1, bX, bwX⟩ := unhide HX1
  have e1 := (b3.block w2.heap.size (by omega)).trans hX1.1
  have e2 := (b3.block (w2.heap.size + 1) (by omega)).trans hX1.2
  have b23 := bX.trans (b3.mono bX.size)
  have bw3 := bwX.trans (b3.mono bwX.size)
  have z3 : w2.heap.size + 1 < w3.heap.size := by have := b3.size; omega
  have HP2 := hide hpo2
  have HK2 := hide hK2
  clear hpo2 hK2 hflt2 HX1 hX1 bX bwX hcX b3 hXs
  have kf1 : ∀ o o', ((w3.alloc o).alloc o').cell? ⟨w2.heap.size + 1, 0, none⟩ = some (.int .i64 K1) := fun o o' => (dt.cell_cells (((two_alloc w3 o o').block _ z3).trans e2) 0).trans rfl
  by_cases hk1 : K1 = 0
  · subst hk1
    by_cases hk2 : K2 = 0
    · subst hk2
      obtain ⟨kd1, rfl, rfl, rfl⟩ := (unhide HK1) rfl
      obtain ⟨kd2, rfl, rfl, rfl⟩ := (unhide HK2) rfl
      obtain ⟨v, hv⟩ := readLG_some kd1
      obtain ⟨u, hu⟩ := readLG_some kd2
      have hpo1 := unhide HP1
      have hpo2 := unhide HP2
      rw [hv] at hpo1
      rw [hu] at hpo2
      have ow1 : Ow w2 v _ F1 := hpo1.own
      have ow2 : Ow w3 u _ F2 := hpo2.own
      have rg1 : ∀ b ∈ F1, b < w2.heap.size := fun b hb => (hpo1.rng b hb).2
      have rg2 : ∀ b ∈ F2, b < w3.heap.size := fun b hb => (hpo2.rng b hb).2
      obtain ⟨hPL, hPO, hPD⟩ := nests_pure (unhide HZ).1 (unhide HZ).2 (d := L) (by omega) hv hu
      have HPL := hide hPL
      have HPO := hide hPO
      have HPD := hide hPD
      have HO := hide (And.intro ow1 (And.intro ow2 (And.intro rg1 (And.intro rg2 b23))))
      clear hpo1 hpo2 ow1 ow2 rg1 rg2 hPL hPO hPD HP1 HP2 HK1 HK2 hv hu kd1 kd2 b23
      obtain ⟨Y, hY⟩ : ∃ Y, Y = (w3.alloc (.cells #[.int .i64 k2', .string t2, .bool bl2, .slice ai2 ni2 ci2, .slice af2 nf2 cf2, .int .i64 ln2, .int .i64 co2] 32)).alloc (.cells #[.int .i64 0, .slice none 0 0, .slice none 0 0] 37) := ⟨_, rfl⟩
      have bY : Below w3.heap.size w3 Y := by rw [hY]; exact two_alloc _ _ _
      have zY : Y.heap.size = w3.heap.size + 1 + 1 := by rw [hY]; simp
      have hY1 := (show Y.heap[w3.heap.size]? = _ ∧ Y.heap[w3.heap.size + 1]? = _ from by rw [hY]; exact two_at _ _ _ _ _)
      have bwY := bw3.trans (bY.mono bw3.size)
      have gA := (bY.block w2.heap.size (by omega)).trans e1
      have gB := (bY.block (w2.heap.size + 1) z3).trans e2
      obtain ⟨s1, hs1⟩ : ∃ s, s = strOfNums z := ⟨_, rfl⟩
      obtain ⟨s2, hs2⟩ : ∃ s, s = strOfNums y := ⟨_, rfl⟩
      have cz := hide (fun W (bb : Below w.heap.size w W) => (unhide hS1) W bb)
      have cy := hide (fun W (bb : Below w.heap.size w W) => (unhide hS2) W bb)
      rw [← hs1] at cz
      rw [← hs2] at cy
      have zs1 : mem.bytesZ s1 = z := by rw [hs1]; exact mem.bytesZ_str _ (unhide HZ).1
      have zs2 : mem.bytesZ s2 = y := by rw [hs2]; exact mem.bytesZ_str _ (unhide HZ).2
      have ls1 : s1.size = n := by rw [← mem.bytesZ_len, zs1]; exact unhide HZL |>.1
      have ls2 : s2.size = n2 := by rw [← mem.bytesZ_len, zs2]; exact unhide HZL |>.2
      obtain ⟨S1, hS⟩ : ∃ S, S = (⟨#[91]⟩ : ByteArray) ++ s1 ++ ⟨#[10]⟩ ++ s2 ++ ⟨#[10, 93]⟩ := ⟨_, rfl⟩
      have zS1 : mem.bytesZ S1 = sL z y := by rw [hS, bytesZ_appN, bytesZ_appN, bytesZ_appN, bytesZ_appN, zs1, zs2]; rfl
      have lS1 : S1.size ≤ 2097200 := by
        have e := congrArg List.length zS1
        rw [mem.bytesZ_len] at e
        have h1 := (unhide HZL)
        unfold sL at e
        simp at e
        omega
      obtain ⟨cp4, W4, hc4, hr4, b4⟩ := conv_bytesN S1 Y
      rw [zY] at hc4 hr4
      have hp5 := hide (readLitG_ok _ _ _ _ ct (L + 1) W4 hr4 (by omega) (mem.bytesZ_byt S1) ((unhide hwf) (L + 1) (by omega)))
      rw [zS1] at hp5
      have kz : ∀ o o', (convert 22 9 (.slice a n c)).run Tryz.prog ((w3.alloc o).alloc o') = .ok (.string s1) ((w3.alloc o).alloc o') := fun o o' => (unhide cz) _ (bw3.trans ((two_alloc w3 o o').mono bw3.size))
      have ky' : ∀ o o', (convert 22 9 (.slice a2 n2 c2)).run Tryz.prog ((w3.alloc o).alloc o') = .ok (.string s2) ((w3.alloc o).alloc o') := fun o o' => (unhide cy) _ (bw3.trans ((two_alloc w3 o o').mono bw3.size))
      have hc4' : (convert 9 22 (.string ((⟨#[91]⟩ : ByteArray) ++ s1 ++ ⟨#[10]⟩ ++ s2 ++ ⟨#[10, 93]⟩))).run Tryz.prog ((w3.alloc (.cells #[.int .i64 k2', .string t2, .bool bl2, .slice ai2 ni2 ci2, .slice af2 nf2 cf2, .int .i64 ln2, .int .i64 co2] 32)).alloc (.cells #[.int .i64 0, .slice none 0 0, .slice none 0 0] 37)) = .ok (.slice (some ⟨w3.heap.size + 1 + 1, 0, none⟩) S1.size cp4) W4 := by rw [← hS, ← hY]; exact hc4
      clear hc4
      have zYz := zY
      have KF1 := hide kf1
      have zYw : Y.heap.size = w3.heap.size + 2 := by omega
      have HY := hide (And.intro hY1 (And.intro gA (And.intro gB (And.intro b4 (And.intro bwY bY)))))
      have hwl : IntKind.i64.wrap (L + 1) = L + 1 := by rw [IntKind.wrap_i64]; omega
      clear hY1 gA gB b4 bwY bY e1 e2 hr4 hs1 hs2 bw3 hS hY zY zYz kf1
      have kf1 : ∀ o o', ((w3.alloc o).alloc o').cell? ⟨w2.heap.size + 1, 0, none⟩ = some (.int .i64 0) := unhide KF1
      go_wp2_with fail
      refine (unhide hp5).mono ?_
      rintro e w5 ⟨cs3, F3, fs3, rfl, hpo3, hflt3, b5⟩
      as_aux_lemma =>
        obtain ⟨v3, u3, xa3, xb3, f3, g3, hr3, hk3, qv3, qu3⟩ := unhide HPL
        rw [hr3] at hpo3
        unfold FltAt at hflt3
        rw [if_pos hk3] at hflt3
        subst hflt3
        have ow3 : Ow w5 (litD 8 em false (Dt.of [v3, u3]) (Dt.of []) xa3 xb3) cs3 F3 := hpo3.own
        have rg3 : ∀ b ∈ F3, b < w5.heap.size := fun b hb => (hpo3.rng b hb).2
        obtain ⟨ai3, ni3, ci3, af3, nf3, cf3, rfl, hni3, hnf3, hic3, hfc3, him3, hfm3, hit3, hfl3⟩ := lit_cells ow3
        obtain rfl : ni3 = 2 := hni3
        obtain rfl : nf3 = 0 := hnf3
        obtain ⟨hY1, gA, gB, b4, bwY, bY⟩ := unhide HY
        have b45 := b4.trans (b5.mono b4.size)
        have z5 : Y.heap.size ≤ w5.heap.size := b45.size
        have bA5 : ∀ o, Below Y.heap.size Y (w5.alloc o) := fun o => b45.alloc b45.size o
        have hbA : ∀ o, (w5.alloc o).heap[w2.heap.size + 1]? = some (.cells #[.int .i64 0, .slice none 0 0, .slice none 0 0] 37 (0, 0)) := fun o => ((bA5 o).block _ (by omega)).trans gB
        obtain ⟨Z1, hZ1⟩ : ∃ Z, Z = (w5.alloc (.cells #[.int .i64 8, .string em, .bool false, .slice ai3 2 ci3, .slice af3 0 cf3, .int .i64 xa3, .int .i64 xb3] 32)).setCells (w2.heap.size + 1) 0 (#[.int .i64 0, .slice none 0 0, .slice none 0 0] : Array Value).toList := ⟨_, rfl⟩
        have bYZ1 : Below Y.heap.size Y Z1 := by rw [hZ1]; exact put_below (bA5 _) (hbA _)
        have gE : Z1.heap[w5.heap.size]? = some (.cells #[.int .i64 8, .string em, .bool false, .slice ai3 2 ci3, .slice af3 0 cf3, .int .i64 xa3, .int .i64 xb3] 32 (0, 0)) := by rw [hZ1]; exact (put_flt (hbA _) _).trans (heap_alloc_new w5 _)
        have zZ1 : Z1.heap.size = w5.heap.size + 1 := by rw [hZ1, dt.size_setCells]; simp
        have b5Z1 : Below w5.heap.size w5 Z1 := by rw [hZ1]; exact put_below ((Below.refl _ _).alloc (Nat.le_refl _) _) (hbA _)
        have bwZ1 := bwY.trans (bYZ1.mono bwY.size)
        have HT1 := hide (show (w5.alloc (.cells #[.int .i64 8, .string em, .bool false, .slice ai3 2 ci3, .slice af3 0 cf3, .int .i64 xa3, .int .i64 xb3] 32)).there (w2.heap.size + 1) 0 3 from dt.there_cells (hbA _) (by decide))
        have EZ1 := hide hZ1
        obtain ⟨S2, hS2'⟩ : ∃ S, S = (⟨#[123, 120, 58]⟩ : ByteArray) ++ s1 ++ ⟨#[10, 120, 58]⟩ ++ s2 ++ ⟨#[10, 125]⟩ := ⟨_, rfl⟩
        have zS2 : mem.bytesZ S2 = sO z y := by rw [hS2', bytesZ_appN, bytesZ_appN, bytesZ_appN, bytesZ_appN, zs1, zs2]; rfl
        have lS2 : S2.size ≤ 2097200 := by
          have e := congrArg List.length zS2
          rw [mem.bytesZ_len] at e
          have h1 := (unhide HZL)
          unfold sO at e
          simp at e
          omega
        obtain ⟨cp6, W6, hc6, hr6, b6⟩ := conv_bytesN S2 Z1
        have hp7 := hide (readLitG_ok _ _ _ _ ct (L + 1) W6 hr6 (by omega) (mem.bytesZ_byt S2) ((unhide hwf) (L + 1) (by omega)))
        rw [zS2] at hp7
        have kz1 := (unhide cz) Z1 bwZ1
        have ky1 := (unhide cy) Z1 bwZ1
        have hc6' : (convert 9 22 (.string ((⟨#[123, 120, 58]⟩ : ByteArray) ++ s1 ++ ⟨#[10, 120, 58]⟩ ++ s2 ++ ⟨#[10, 125]⟩))).run Tryz.prog Z1 = .ok (.slice (some ⟨Z1.heap.size, 0, none⟩) S2.size cp6) W6 := by rw [← hS2']; exact hc6
        have H5 := hide (And.intro (And.intro ow3 rg3) (And.intro (And.intro qv3 qu3) (And.intro gE (And.intro bYZ1 (And.intro b5Z1 (And.intro bwZ1 (And.intro b6 (And.intro hit3 (And.intro him3 hic3)))))))))
        clear hpo3 hr3 hk3 ow3 rg3 qv3 qu3 gE bYZ1 b5Z1 bwZ1 b6 hit3 hfl3 hZ1 hS2' hc6 hr6 hbA bA5 b45 hY1 gA gB b4 bwY bY hp5 kz ky' hc4' kf1 b5 him3 hic3 hfc3 hfm3 HPL
        have HZZ := hide (And.intro zZ1 (And.intro zYw (And.intro z5 (And.intro lS2 lS1))))
        have HZS := hide (And.intro zs1 (And.intro zs2 (And.intro ls1 ls2)))
        clear zZ1 zYw z5 lS2 lS1 zS1 zS2 zs1 zs2
        go_wp2_with (first
          | (refine wpList_store_mid (by rfl) 37 _ _ (by rfl) (w2.heap.size + 1) 0 #[.int .i64 0, .slice none 0 0, .slice none 0 0] (by rfl) (by rfl) (unhide HT1) infoFl (dt.one_cells (cs := [.int .i64 0, .slice none 0 0, .slice none 0 0]) (by rfl)) ?_; rw [← unhide EZ1]))
        refine (unhide hp7).mono ?_
        rintro e w7 ⟨cs4, F4, fs4, rfl, hpo4, hflt4, b7⟩
        as_aux_lemma =>
          obtain ⟨v4, u4, xa4, xb4, pa4, pb4, pc4, pd4, f4, g4, hr4, hk4, qv4, qu4⟩ := unhide HPO
          rw [hr4] at hpo4
          unfold FltAt at hflt4
          rw [if_pos hk4] at hflt4
          subst hflt4
          have ow4 : Ow w7 (litD 9 em false (Dt.of []) (Dt.of [fldD bx v4 pa4 pb4, fldD bx u4 pc4 pd4]) xa4 xb4) cs4 F4 := hpo4.own
          have rg4 : ∀ b ∈ F4, b < w7.heap.size := fun b hb => (hpo4.rng b hb).2
          obtain ⟨ai4, ni4, ci4, af4, nf4, cf4, rfl, hni4, hnf4, hic4, hfc4, him4, hfm4, hit4, hfl4⟩ := lit_cells ow4
          obtain rfl : ni4 = 0 := hni4
          obtain rfl : nf4 = 2 := hnf4
          obtain ⟨⟨ow3, rg3⟩, ⟨qv3, qu3⟩, gE, bYZ1, b5Z1, bwZ1, b6, hit3, him3, hic3⟩ := unhide H5
          obtain ⟨zZ1, zYw, z5, lS2, lS1⟩ := unhide HZZ
          obtain ⟨hY1, gA, gB, b4, bwY, bY⟩ := unhide HY
          have b67 := b6.trans (b7.mono b6.size)
          have z7 : Z1.heap.size ≤ w7.heap.size := b67.size
          have bA7 : ∀ o, Below Z1.heap.size Z1 (w7.alloc o) := fun o => b67.alloc b67.size o
          have gD1 := (bYZ1.block (w3.heap.size + 1) (by omega)).trans hY1.2
          have hbB : ∀ o, (w7.alloc o).heap[w3.heap.size + 1]? = some (.cells #[.int .i64 0, .slice none 0 0, .slice none 0 0] 37 (0, 0)) := fun o => ((bA7 o).block _ (by omega)).trans gD1
          obtain ⟨Z2, hZ2⟩ : ∃ Z, Z = (w7.alloc (.cells #[.int .i64 9, .string em, .bool false, .slice ai4 0 ci4, .slice af4 2 cf4, .int .i64 xa4, .int .i64 xb4] 32)).setCells (w3.heap.size + 1) 0 (#[.int .i64 0, .slice none 0 0, .slice none 0 0] : Array Value).toList := ⟨_, rfl⟩
          have bZ12 : Below Z1.heap.size Z1 Z2 := by rw [hZ2]; exact put_below (bA7 _) (hbB _)
          have gF : Z2.heap[w7.heap.size]? = some (.cells #[.int .i64 9, .string em, .bool false, .slice ai4 0 ci4, .slice af4 2 cf4, .int .i64 xa4, .int .i64 xb4] 32 (0, 0)) := by rw [hZ2]; exact (put_flt (hbB _) _).trans (heap_alloc_new w7 _)
          have zZ2 : Z2.heap.size = w7.heap.size + 1 := by rw [hZ2, dt.size_setCells]; simp
          have b7Z2 : Below w7.heap.size w7 Z2 := by rw [hZ2]; exact put_below ((Below.refl _ _).alloc (Nat.le_refl _) _) (hbB _)
          have bYZ2 := bYZ1.trans (bZ12.mono bYZ1.size)
          have b5Z2 := b5Z1.trans (bZ12.mono b5Z1.size)
          have bwZ2 := bwZ1.trans (bZ12.mono bwZ1.size)
          have HT2 := hide (show (w7.alloc (.cells #[.int .i64 9, .string em, .bool false, .slice ai4 0 ci4, .slice af4 2 cf4, .int .i64 xa4, .int .i64 xb4] 32)).there (w3.heap.size + 1) 0 3 from dt.there_cells (hbB _) (by decide))
          have EZ2 := hide hZ2
          -- what lies in memory now
          have GA := (bYZ2.block w2.heap.size (by omega)).trans gA
          have GB := (bYZ2.block (w2.heap.size + 1) (by omega)).trans gB
          have GC := (bYZ2.block w3.heap.size (by omega)).trans hY1.1
          have GD := (bYZ2.block (w3.heap.size + 1) (by omega)).trans hY1.2
          have GE := (bZ12.block w5.heap.size (by omega)).trans gE
          obtain ⟨ow1, ow2, rg1, rg2, b23⟩ := unhide HO
          have b3Z2 := bY.trans (bYZ2.mono bY.size)
          have b2Z2 := b23.trans (b3Z2.mono b23.size)
          have OW1 : Ow Z2 v _ F1 := ow_below ow1 b2Z2 rg1
          have OW2 : Ow Z2 u _ F2 := ow_below ow2 b3Z2 rg2
          have RG1 : ∀ b ∈ F1, b < Z2.heap.size := fun b hb => Nat.lt_of_lt_of_le (rg1 b hb) b2Z2.size
          have RG2 : ∀ b ∈ F2, b < Z2.heap.size := fun b hb => Nat.lt_of_lt_of_le (rg2 b hb) b3Z2.size
          obtain ⟨p3, dsv3, Gv3, hp3, hpF3, row30, dl30, owv3, hG30⟩ := hit3 0 v3 rfl
          obtain ⟨p3', dsu3, Gu3, hp3', hpF3', row31, dl31, owu3, hG31⟩ := hit3 1 u3 rfl
          subst hp3
          obtain rfl : p3 = p3' := by simpa using hp3'
          obtain ⟨p4, dsf4, Gf4, hp4, hpF4, row40, dl40, owf4, hG40⟩ := hfl4 0 _ rfl
          obtain ⟨p4', dsg4, Gg4, hp4', hpF4', row41, dl41, owg4, hG41⟩ := hfl4 1 _ rfl
          subst hp4
          obtain rfl : p4 = p4' := by simpa using hp4'
          have p3l : p3 < w5.heap.size := rg3 p3 hpF3
          have p4l : p4 < w7.heap.size := rg4 p4 hpF4
          have KB : Z2.cell? ⟨w2.heap.size + 1, 0, none⟩ = some (.int .i64 0) := (dt.cell_cells GB 0).trans rfl
          have KD : Z2.cell? ⟨w3.heap.size + 1, 0, none⟩ = some (.int .i64 0) := (dt.cell_cells GD 0).trans rfl
          have KE0 : Z2.cell? ⟨w5.heap.size, 0, none⟩ = some (.int .i64 8) := (dt.cell_cells GE 0).trans rfl
          have KE3 : Z2.cell? ⟨w5.heap.size, 3, none⟩ = some (.slice (some ⟨p3, 0, none⟩) 2 ci3) := (dt.cell_cells GE 3).trans rfl
          have KF0 : Z2.cell? ⟨w7.heap.size, 0, none⟩ = some (.int .i64 9) := (dt.cell_cells gF 0).trans rfl
          have KF4 : Z2.cell? ⟨w7.heap.size, 4, none⟩ = some (.slice (some ⟨p4, 0, none⟩) 2 cf4) := (dt.cell_cells gF 4).trans rfl
          have HM := hide (And.intro GA (And.intro GC (And.intro (And.intro OW1 RG1) (And.intro (And.intro OW2 RG2) (And.intro (And.intro row30 (And.intro dl30 (And.intro owv3 hG30))) (And.intro (And.intro row31 (And.intro dl31 (And.intro owu3 hG31))) (And.intro (And.intro row40 (And.intro dl40 (And.intro owf4 hG40))) (And.intro row41 (And.intro dl41 (And.intro owg4 hG41))))))))))
          have HQ := hide (And.intro qv3 (And.intro qu3 (And.intro qv4 (And.intro qu4 (And.intro rg3 rg4)))))
          have HB2 := hide (And.intro b5Z2 (And.intro b7Z2 bwZ2))
          have HL2 := hide (And.intro p3l (And.intro p4l (And.intro z7 (And.intro zZ2 (And.intro zZ1 (And.intro zYw (And.intro z5 (And.intro him3 (And.intro hic3 (And.intro hfm4 hfc4))))))))))
          have ci3l : (2 : Int) ≤ (ci3 : Int) := by omega
          have cf4l : (2 : Int) ≤ (cf4 : Int) := by omega
          clear hpo4 hr4 hk4 ow4 rg4 qv4 qu4 gF bZ12 b7Z2 bwZ2 bYZ2 b5Z2 GA GB GC GD GE OW1 OW2 RG1 RG2 row30 row31 row40 row41 dl30 dl31 dl40 dl41 owv3 owu3 owf4 owg4 hG30 hG31 hG40 hG41 hpF3 hpF3' hpF4 hpF4' hp3' hp4' p3l p4l qv3 qu3 rg3 ow3 gE bYZ1 b5Z1 bwZ1 b6 hit3 him3 hic3 hit4 hfl4 hic4 hfc4 him4 hfm4 hY1 gA gB b4 bwY bY b67 z7 bA7 gD1 hbB hZ2 zZ2 ow1 ow2 rg1 rg2 b23 b3Z2 b2Z2 zZ1 zYw z5 lS2 lS1 hp7 kz1 ky1 hc6' b7 HPO H5 HZZ HY HO HT1 EZ1
          go_wp2_with (first
            | (refine wpList_store_mid (by rfl) 37 _ _ (by rfl) (w3.heap.size + 1) 0 #[.int .i64 0, .slice none 0 0, .slice none 0 0] (by rfl) (by rfl) (unhide HT2) infoFl (dt.one_cells (cs := [.int .i64 0, .slice none 0 0, .slice none 0 0]) (by rfl)) ?_; rw [← unhide EZ2]))
          obtain ⟨GA, GC, ⟨OW1, RG1⟩, ⟨OW2, RG2⟩, ⟨row30, dl30, owv3, hG30⟩, ⟨row31, dl31, owu3, hG31⟩, ⟨row40, dl40, owf4, hG40⟩, row41, dl41, owg4, hG41⟩ := unhide HM
          obtain ⟨qv3, qu3, qv4, qu4, rg3, rg4⟩ := unhide HQ
          obtain ⟨b5Z2, b7Z2, bwZ2⟩ := unhide HB2
          obtain ⟨p3l, p4l, z7, zZ2, zZ1, zYw, z5, him3, hic3, hfm4, hfc4⟩ := unhide HL2
          obtain ⟨kv, tv, bv, itv, flv, lnv, cov, hfv⟩ := eql_form qv4
          obtain ⟨ku, tu, bu, itu, flu, lnu, cou, hfu⟩ := eql_form qu4
          have owf4' : Ow w7 (fldD bx (litD kv tv bv itv flv lnv cov) pa4 pb4) dsf4 Gf4 := by rw [← hfv]; exact owf4
          have owg4' : Ow w7 (fldD bx (litD ku tu bu itu flu lnu cou) pc4 pd4) dsg4 Gg4 := by rw [← hfu]; exact owg4
          obtain ⟨aiv, niv, civ, afv, nfv, cfv, hdf, owv4⟩ := fld_cells owf4'
          obtain ⟨aiu, niu, ciu, afu, nfu, cfu, hdg, owu4⟩ := fld_cells owg4'
          rw [← hfv] at owv4
          rw [← hfu] at owu4
          rw [hdf] at row40
          rw [hdg] at row41
          have l2 : w2.heap.size < Z2.heap.size := by omega
          have l3 : w3.heap.size < Z2.heap.size := by omega
          have l5 : w5.heap.size < Z2.heap.size := by omega
          have l7 : w7.heap.size < Z2.heap.size := by omega
          have lp3 : p3 < Z2.heap.size := by omega
          have lp4 : p4 < Z2.heap.size := by omega
          have RA := hide (fun W (bb : Below Z2.heap.size Z2 W) => rng_below (blk_rng (l := [.int .i64 k1, .string t1, .bool bl1, .slice ai1 ni1 ci1, .slice af1 nf1 cf1, .int .i64 ln1, .int .i64 co1]) GA) bb l2)
          have RC := hide (fun W (bb : Below Z2.heap.size Z2 W) => rng_below (blk_rng (l := [.int .i64 k2', .string t2, .bool bl2, .slice ai2 ni2 ci2, .slice af2 nf2 cf2, .int .i64 ln2, .int .i64 co2]) GC) bb l3)
          have RV3 := hide (fun W (bb : Below Z2.heap.size Z2 W) => rng_below (rng_below (show w5.rangeAt p3 0 dsv3 from fun i x hx => by have h1 := row30 i x hx; rw [Nat.zero_mul] at h1; exact h1) b5Z2 p3l) bb lp3)
          have RU3 := hide (fun W (bb : Below Z2.heap.size Z2 W) => rng_below (rng_below (show w5.rangeAt p3 7 dsu3 from fun i x hx => by have h1 := row31 i x hx; rw [Nat.one_mul] at h1; exact h1) b5Z2 p3l) bb lp3)
          have RV4 := hide (fun W (bb : Below Z2.heap.size Z2 W) => rng_below (rng_below (show w7.rangeAt p4 1 [.int .i64 kv, .string tv, .bool bv, .slice aiv niv civ, .slice afv nfv cfv, .int .i64 lnv, .int .i64 cov] from row_mid (r := [.int .i64 pa4, .int .i64 pb4]) (a := .string bx) row40) b7Z2 p4l) bb lp4)
          have RU4 := hide (fun W (bb : Below Z2.heap.size Z2 W) => rng_below (rng_below (show w7.rangeAt p4 11 [.int .i64 ku, .string tu, .bool bu, .slice aiu niu ciu, .slice afu nfu cfu, .int .i64 lnu, .int .i64 cou] from row_mid (r := [.int .i64 pc4, .int .i64 pd4]) (a := .string bx) row41) b7Z2 p4l) bb lp4)
          have N40 : Z2.cell? ⟨p4, 0, none⟩ = some (.string ⟨#[120]⟩) := (b7Z2.cell (p := ⟨p4, 0, none⟩) p4l).trans (row40 0 _ rfl)
          have N41 : Z2.cell? ⟨p4, 10, none⟩ = some (.string ⟨#[120]⟩) := (b7Z2.cell (p := ⟨p4, 10, none⟩) p4l).trans (row41 0 _ rfl)
          have HIdsv3 := hide (show (Tryz.prog.info? 32).map (·.size) = some dsv3.length by rw [dl30]; exact infoLt)
          have HIdsu3 := hide (show (Tryz.prog.info? 32).map (·.size) = some dsu3.length by rw [dl31]; exact infoLt)
          have HIT := hide infoLt
          have hC0 := hide (fun W (bb : Below Z2.heap.size Z2 W) => same_f f3 v3 v qv3 W dsv3 [.int .i64 k1, .string t1, .bool bl1, .slice ai1 ni1 ci1, .slice af1 nf1 cf1, .int .i64 ln1, .int .i64 co1] Gv3 F1 (ow_below (ow_below owv3 b5Z2 (fun b hb => rg3 b (hG30 b hb))) bb (fun b hb => Nat.lt_of_lt_of_le (rg3 b (hG30 b hb)) b5Z2.size)) (ow_below OW1 bb RG1) (fun b hb => Nat.lt_of_lt_of_le (Nat.lt_of_lt_of_le (rg3 b (hG30 b hb)) b5Z2.size) bb.size) (fun b hb => Nat.lt_of_lt_of_le (RG1 b hb) bb.size))
          have hC1 := hide (fun W (bb : Below Z2.heap.size Z2 W) => same_f g3 u3 u qu3 W dsu3 [.int .i64 k2', .string t2, .bool bl2, .slice ai2 ni2 ci2, .slice af2 nf2 cf2, .int .i64 ln2, .int .i64 co2] Gu3 F2 (ow_below (ow_below owu3 b5Z2 (fun b hb => rg3 b (hG31 b hb))) bb (fun b hb => Nat.lt_of_lt_of_le (rg3 b (hG31 b hb)) b5Z2.size)) (ow_below OW2 bb RG2) (fun b hb => Nat.lt_of_lt_of_le (Nat.lt_of_lt_of_le (rg3 b (hG31 b hb)) b5Z2.size) bb.size) (fun b hb => Nat.lt_of_lt_of_le (RG2 b hb) bb.size))
          have hC2 := hide (fun W (bb : Below Z2.heap.size Z2 W) => same_f f4 v4 v qv4 W [.int .i64 kv, .string tv, .bool bv, .slice aiv niv civ, .slice afv nfv cfv, .int .i64 lnv, .int .i64 cov] [.int .i64 k1, .string t1, .bool bl1, .slice ai1 ni1 ci1, .slice af1 nf1 cf1, .int .i64 ln1, .int .i64 co1] Gf4 F1 (ow_below (ow_below owv4 b7Z2 (fun b hb => rg4 b (hG40 b hb))) bb (fun b hb => Nat.lt_of_lt_of_le (rg4 b (hG40 b hb)) b7Z2.size)) (ow_below OW1 bb RG1) (fun b hb => Nat.lt_of_lt_of_le (Nat.lt_of_lt_of_le (rg4 b (hG40 b hb)) b7Z2.size) bb.size) (fun b hb => Nat.lt_of_lt_of_le (RG1 b hb) bb.size))
          have hC3 := hide (fun W (bb : Below Z2.heap.size Z2 W) => same_f g4 u4 u qu4 W [.int .i64 ku, .string tu, .bool bu, .slice aiu niu ciu, .slice afu nfu cfu, .int .i64 lnu, .int .i64 cou] [.int .i64 k2', .string t2, .bool bl2, .slice ai2 ni2 ci2, .slice af2 nf2 cf2, .int .i64 ln2, .int .i64 co2] Gg4 F2 (ow_below (ow_below owu4 b7Z2 (fun b hb => rg4 b (hG41 b hb))) bb (fun b hb => Nat.lt_of_lt_of_le (rg4 b (hG41 b hb)) b7Z2.size)) (ow_below OW2 bb RG2) (fun b hb => Nat.lt_of_lt_of_le (Nat.lt_of_lt_of_le (rg4 b (hG41 b hb)) b7Z2.size) bb.size) (fun b hb => Nat.lt_of_lt_of_le (RG2 b hb) bb.size))
          have HOW := hide (And.intro OW1 (And.intro RG1 (And.intro OW2 (And.intro RG2 (And.intro GA GC)))))
          have HBW := hide bwZ2
          clear GA GC OW1 RG1 OW2 RG2 row30 dl30 owv3 hG30 row31 dl31 owu3 hG31 row40 dl40 owf4 hG40 row41 dl41 owg4 hG41 qv3 qu3 qv4 qu4 rg3 rg4 b5Z2 b7Z2 bwZ2 z7 zZ2 zZ1 zYw z5 him3 hic3 hfm4 hfc4 hfv hfu owf4' owg4' hdf hdg owv4 owu4 HM HQ HB2 HL2 KB KD KE0 KF0 HT2 EZ2 p3l p4l
          have hS0 : Below Z2.heap.size Z2 { Z2 with drawn := Z2.drawn + 1 } := (Below.refl _ _).drew
          as_aux_lemma =>
            refine wp_region_noPanic ?_
            refine wp_region_held (S := fun w' => Below Z2.heap.size Z2 w') mixed ?_
            refine wpAnyH_take (i := 0) (v := ?v1) rfl (by kernel_rfl) (by kernel_rfl) (by kernel_rfl) (fun _ _ _ h => h) (Or.inl ⟨by rfl, ?hy1⟩) hS0 ?_
            case hy1 => (intro w' hw'; skip; go_simp; try with_reducible rfl)
            simp only [List.getElem_toArray, List.getElem_cons_zero, List.getElem_cons_succ, Act.put, List.setIfInBounds_toArray, List.set_cons_zero, List.set_cons_succ]
            refine wpAnyH_take (i := 1) (v := ?v2) rfl (by kernel_rfl) (by kernel_rfl) (by kernel_rfl) (fun _ _ _ h => h) (Or.inl ⟨by rfl, ?hy2⟩) hS0 ?_
            case hy2 => (intro w' hw'; have q1 := (hw'.cell (p := ⟨w5.heap.size, 3, none⟩) l5).trans KE3; go_simp; try with_reducible rfl)
            simp only [List.getElem_toArray, List.getElem_cons_zero, List.getElem_cons_succ, Act.put, List.setIfInBounds_toArray, List.set_cons_zero, List.set_cons_succ]
            refine wpAnyH_take (i := 2) (v := ?v3) rfl (by kernel_rfl) (by kernel_rfl) (by kernel_rfl) (fun _ _ _ h => h) (Or.inl ⟨by rfl, ?hy3⟩) hS0 ?_
            case hy3 => (intro w' hw'; skip; go_simp; try with_reducible rfl)
            simp only [List.getElem_toArray, List.getElem_cons_zero, List.getElem_cons_succ, Act.put, List.setIfInBounds_toArray, List.set_cons_zero, List.set_cons_succ]
            refine wpAnyH_take (i := 3) rfl (by kernel_rfl) (by kernel_rfl) (by kernel_rfl) (fun _ _ _ h => h) (yieldsIf_load_mid (by rfl) 32 _ (by rfl) p3 0 (by rfl) dsv3 _ (unhide RV3) Tryz.underlying32 (by rfl) (unhide HIdsv3)) hS0 ?_
            simp only [List.getElem_toArray, List.getElem_cons_zero, List.getElem_cons_succ, Act.put, List.setIfInBounds_toArray, List.set_cons_zero, List.set_cons_succ]
            refine wpAnyH_take (i := 4) rfl (by kernel_rfl) (by kernel_rfl) (by kernel_rfl) (fun _ _ _ h => h) (yieldsIf_load_mid (by rfl) 32 _ (by rfl) w2.heap.size 0 (by rfl) [.int .i64 k1, .string t1, .bool bl1, .slice ai1 ni1 ci1, .slice af1 nf1 cf1, .int .i64 ln1, .int .i64 co1] _ (unhide RA) Tryz.underlying32 (by rfl) (unhide HIT)) hS0 ?_
            simp only [List.getElem_toArray, List.getElem_cons_zero, List.getElem_cons_succ, Act.put, List.setIfInBounds_toArray, List.set_cons_zero, List.set_cons_succ]
            refine rgn.one (i := 5) _ rfl (by kernel_rfl) (by rfl) ?_
            simp only [List.getElem_toArray, List.getElem_cons_zero, List.getElem_cons_succ, Act.put, List.setIfInBounds_toArray, List.set_cons_zero, List.set_cons_succ]
            go_wp2_with fail
            refine ((unhide hC0) _ hS0).mono ?_
            rintro e' vv ⟨rfl, zz1⟩
            have hS1 : Below Z2.heap.size Z2 vv := hS0.trans (zz1.mono hS0.size)
            refine ⟨hS1, ?_⟩
            clear hS0 zz1
            have hS0 := hS1
            clear hS1
            try simp only [List.getElem_toArray, List.getElem_cons_zero, List.getElem_cons_succ, Act.put, List.setIfInBounds_toArray, List.set_cons_zero, List.set_cons_succ]
            as_aux_lemma =>
              refine wpAnyH_take (i := 6) (v := ?v4) rfl (by kernel_rfl) (by kernel_rfl) (by kernel_rfl) (fun _ _ _ h => h) (Or.inl ⟨by rfl, ?hy4⟩) hS0 ?_
              case hy4 => (intro w' hw'; skip; go_simp; try with_reducible rfl)
              simp only [List.getElem_toArray, List.getElem_cons_zero, List.getElem_cons_succ, Act.put, List.setIfInBounds_toArray, List.set_cons_zero, List.set_cons_succ]
              refine wpAnyH_take (i := 7) (v := ?v5) rfl (by kernel_rfl) (by kernel_rfl) (by kernel_rfl) (fun _ _ _ h => h) (Or.inl ⟨by rfl, ?hy5⟩) hS0 ?_
              case hy5 => (intro w' hw'; skip; go_simp; try with_reducible rfl)
              simp only [List.getElem_toArray, List.getElem_cons_zero, List.getElem_cons_succ, Act.put, List.setIfInBounds_toArray, List.set_cons_zero, List.set_cons_succ]
              refine wpAnyH_take (i := 8) (v := ?v6) rfl (by kernel_rfl) (by kernel_rfl) (by kernel_rfl) (fun _ _ _ h => h) (Or.inl ⟨by rfl, ?hy6⟩) hS0 ?_
              case hy6 => (intro w' hw'; skip; go_simp; try with_reducible rfl)
              simp only [List.getElem_toArray, List.getElem_cons_zero, List.getElem_cons_succ, Act.put, List.setIfInBounds_toArray, List.set_cons_zero, List.set_cons_succ]
              refine wpAnyH_take (i := 9) (v := ?v7) rfl (by kernel_rfl) (by kernel_rfl) (by kernel_rfl) (fun _ _ _ h => h) (Or.inl ⟨by rfl, ?hy7⟩) hS0 ?_
              case hy7 => (intro w' hw'; have q1 := (hw'.cell (p := ⟨w5.heap.size, 3, none⟩) l5).trans KE3; go_simp; try with_reducible rfl)
              simp only [List.getElem_toArray, List.getElem_cons_zero, List.getElem_cons_succ, Act.put, List.setIfInBounds_toArray, List.set_cons_zero, List.set_cons_succ]
              refine wpAnyH_take (i := 10) (v := ?v8) rfl (by kernel_rfl) (by kernel_rfl) (by kernel_rfl) (fun _ _ _ h => h) (Or.inl ⟨by rfl, ?hy8⟩) hS0 ?_
              case hy8 => (intro w' hw'; skip; go_simp; try with_reducible rfl)
              simp only [List.getElem_toArray, List.getElem_cons_zero, List.getElem_cons_succ, Act.put, List.setIfInBounds_toArray, List.set_cons_zero, List.set_cons_succ]
              refine wpAnyH_take (i := 11) rfl (by kernel_rfl) (by kernel_rfl) (by kernel_rfl) (fun _ _ _ h => h) (yieldsIf_load_mid (by rfl) 32 _ (by rfl) p3 7 (by rfl) dsu3 _ (unhide RU3) Tryz.underlying32 (by rfl) (unhide HIdsu3)) hS0 ?_
              simp only [List.getElem_toArray, List.getElem_cons_zero, List.getElem_cons_succ, Act.put, List.setIfInBounds_toArray, List.set_cons_zero, List.set_cons_succ]
              refine wpAnyH_take (i := 12) rfl (by kernel_rfl) (by kernel_rfl) (by kernel_rfl) (fun _ _ _ h => h) (yieldsIf_load_mid (by rfl) 32 _ (by rfl) w3.heap.size 0 (by rfl) [.int .i64 k2', .string t2, .bool bl2, .slice ai2 ni2 ci2, .slice af2 nf2 cf2, .int .i64 ln2, .int .i64 co2] _ (unhide RC) Tryz.underlying32 (by rfl) (unhide HIT)) hS0 ?_
              simp only [List.getElem_toArray, List.getElem_cons_zero, List.getElem_cons_succ, Act.put, List.setIfInBounds_toArray, List.set_cons_zero, List.set_cons_succ]
              refine rgn.one (i := 13) _ rfl (by kernel_rfl) (by rfl) ?_
              simp only [List.getElem_toArray, List.getElem_cons_zero, List.getElem_cons_succ, Act.put, List.setIfInBounds_toArray, List.set_cons_zero, List.set_cons_succ]
              go_wp2_with fail
              refine ((unhide hC1) _ hS0).mono ?_
              rintro e' vv ⟨rfl, zz1⟩
              have hS1 : Below Z2.heap.size Z2 vv := hS0.trans (zz1.mono hS0.size)
              refine ⟨hS1, ?_⟩
              clear hS0 zz1
              have hS0 := hS1
              clear hS1
              try simp only [List.getElem_toArray, List.getElem_cons_zero, List.getElem_cons_succ, Act.put, List.setIfInBounds_toArray, List.set_cons_zero, List.set_cons_succ]
              as_aux_lemma =>
                refine wpAnyH_take (i := 14) (v := ?v9) rfl (by kernel_rfl) (by kernel_rfl) (by kernel_rfl) (fun _ _ _ h => h) (Or.inl ⟨by rfl, ?hy9⟩) hS0 ?_
                case hy9 => (intro w' hw'; skip; go_simp; try with_reducible rfl)
                simp only [List.getElem_toArray, List.getElem_cons_zero, List.getElem_cons_succ, Act.put, List.setIfInBounds_toArray, List.set_cons_zero, List.set_cons_succ]
                refine wpAnyH_take (i := 15) (v := ?v10) rfl (by kernel_rfl) (by kernel_rfl) (by kernel_rfl) (fun _ _ _ h => h) (Or.inl ⟨by rfl, ?hy10⟩) hS0 ?_
                case hy10 => (intro w' hw'; skip; go_simp; try with_reducible rfl)
                simp only [List.getElem_toArray, List.getElem_cons_zero, List.getElem_cons_succ, Act.put, List.setIfInBounds_toArray, List.set_cons_zero, List.set_cons_succ]
                refine wpAnyH_take (i := 16) (v := ?v11) rfl (by kernel_rfl) (by kernel_rfl) (by kernel_rfl) (fun _ _ _ h => h) (Or.inl ⟨by rfl, ?hy11⟩) hS0 ?_
                case hy11 => (intro w' hw'; skip; go_simp; try with_reducible rfl)
                simp only [List.getElem_toArray, List.getElem_cons_zero, List.getElem_cons_succ, Act.put, List.setIfInBounds_toArray, List.set_cons_zero, List.set_cons_succ]
                refine wpAnyH_take (i := 17) (v := ?v12) rfl (by kernel_rfl) (by kernel_rfl) (by kernel_rfl) (fun _ _ _ h => h) (Or.inl ⟨by rfl, ?hy12⟩) hS0 ?_
                case hy12 => (intro w' hw'; skip; go_simp; try with_reducible rfl)
                simp only [List.getElem_toArray, List.getElem_cons_zero, List.getElem_cons_succ, Act.put, List.setIfInBounds_toArray, List.set_cons_zero, List.set_cons_succ]
                refine wpAnyH_take (i := 18) (v := ?v13) rfl (by kernel_rfl) (by kernel_rfl) (by kernel_rfl) (fun _ _ _ h => h) (Or.inl ⟨by rfl, ?hy13⟩) hS0 ?_
                case hy13 => (intro w' hw'; have q1 := (hw'.cell (p := ⟨w7.heap.size, 4, none⟩) l7).trans KF4; go_simp; try with_reducible rfl)
                simp only [List.getElem_toArray, List.getElem_cons_zero, List.getElem_cons_succ, Act.put, List.setIfInBounds_toArray, List.set_cons_zero, List.set_cons_succ]
                refine wpAnyH_take (i := 19) (v := ?v14) rfl (by kernel_rfl) (by kernel_rfl) (by kernel_rfl) (fun _ _ _ h => h) (Or.inl ⟨by rfl, ?hy14⟩) hS0 ?_
                case hy14 => (intro w' hw'; skip; go_simp; try with_reducible rfl)
                simp only [List.getElem_toArray, List.getElem_cons_zero, List.getElem_cons_succ, Act.put, List.setIfInBounds_toArray, List.set_cons_zero, List.set_cons_succ]
                refine wpAnyH_take (i := 20) (v := ?v15) rfl (by kernel_rfl) (by kernel_rfl) (by kernel_rfl) (fun _ _ _ h => h) (Or.inl ⟨by rfl, ?hy15⟩) hS0 ?_
                case hy15 => (intro w' hw'; skip; go_simp; try with_reducible rfl)
                simp only [List.getElem_toArray, List.getElem_cons_zero, List.getElem_cons_succ, Act.put, List.setIfInBounds_toArray, List.set_cons_zero, List.set_cons_succ]
                refine wpAnyH_take (i := 21) rfl (by kernel_rfl) (by kernel_rfl) (by kernel_rfl) (fun _ _ _ h => h) (yieldsIf_load_mid (by rfl) 32 _ (by rfl) p4 1 (by rfl) [.int .i64 kv, .string tv, .bool bv, .slice aiv niv civ, .slice afv nfv cfv, .int .i64 lnv, .int .i64 cov] _ (unhide RV4) Tryz.underlying32 (by rfl) (unhide HIT)) hS0 ?_
                simp only [List.getElem_toArray, List.getElem_cons_zero, List.getElem_cons_succ, Act.put, List.setIfInBounds_toArray, List.set_cons_zero, List.set_cons_succ]
                refine wpAnyH_take (i := 22) rfl (by kernel_rfl) (by kernel_rfl) (by kernel_rfl) (fun _ _ _ h => h) (yieldsIf_load_mid (by rfl) 32 _ (by rfl) w2.heap.size 0 (by rfl) [.int .i64 k1, .string t1, .bool bl1, .slice ai1 ni1 ci1, .slice af1 nf1 cf1, .int .i64 ln1, .int .i64 co1] _ (unhide RA) Tryz.underlying32 (by rfl) (unhide HIT)) hS0 ?_
                simp only [List.getElem_toArray, List.getElem_cons_zero, List.getElem_cons_succ, Act.put, List.setIfInBounds_toArray, List.set_cons_zero, List.set_cons_succ]
                refine rgn.one (i := 23) _ rfl (by kernel_rfl) (by rfl) ?_
                simp only [List.getElem_toArray, List.getElem_cons_zero, List.getElem_cons_succ, Act.put, List.setIfInBounds_toArray, List.set_cons_zero, List.set_cons_succ]
                go_wp2_with fail
                refine ((unhide hC2) _ hS0).mono ?_
                rintro e' vv ⟨rfl, zz1⟩
                have hS1 : Below Z2.heap.size Z2 vv := hS0.trans (zz1.mono hS0.size)
                refine ⟨hS1, ?_⟩
                clear hS0 zz1
                have hS0 := hS1
                clear hS1
                try simp only [List.getElem_toArray, List.getElem_cons_zero, List.getElem_cons_succ, Act.put, List.setIfInBounds_toArray, List.set_cons_zero, List.set_cons_succ]
                as_aux_lemma =>
                  refine wpAnyH_take (i := 24) (v := ?v16) rfl (by kernel_rfl) (by kernel_rfl) (by kernel_rfl) (fun _ _ _ h => h) (Or.inl ⟨by rfl, ?hy16⟩) hS0 ?_
                  case hy16 => (intro w' hw'; skip; go_simp; try with_reducible rfl)
                  simp only [List.getElem_toArray, List.getElem_cons_zero, List.getElem_cons_succ, Act.put, List.setIfInBounds_toArray, List.set_cons_zero, List.set_cons_succ]
                  refine wpAnyH_take (i := 25) (v := ?v17) rfl (by kernel_rfl) (by kernel_rfl) (by kernel_rfl) (fun _ _ _ h => h) (Or.inl ⟨by rfl, ?hy17⟩) hS0 ?_
                  case hy17 => (intro w' hw'; skip; go_simp; try with_reducible rfl)
                  simp only [List.getElem_toArray, List.getElem_cons_zero, List.getElem_cons_succ, Act.put, List.setIfInBounds_toArray, List.set_cons_zero, List.set_cons_succ]
                  refine wpAnyH_take (i := 26) (v := ?v18) rfl (by kernel_rfl) (by kernel_rfl) (by kernel_rfl) (fun _ _ _ h => h) (Or.inl ⟨by rfl, ?hy18⟩) hS0 ?_
                  case hy18 => (intro w' hw'; skip; go_simp; try with_reducible rfl)
                  simp only [List.getElem_toArray, List.getElem_cons_zero, List.getElem_cons_succ, Act.put, List.setIfInBounds_toArray, List.set_cons_zero, List.set_cons_succ]
                  refine wpAnyH_take (i := 27) (v := ?v19) rfl (by kernel_rfl) (by kernel_rfl) (by kernel_rfl) (fun _ _ _ h => h) (Or.inl ⟨by rfl, ?hy19⟩) hS0 ?_
                  case hy19 => (intro w' hw'; skip; go_simp; try with_reducible rfl)
                  simp only [List.getElem_toArray, List.getElem_cons_zero, List.getElem_cons_succ, Act.put, List.setIfInBounds_toArray, List.set_cons_zero, List.set_cons_succ]
                  refine wpAnyH_take (i := 28) (v := ?v20) rfl (by kernel_rfl) (by kernel_rfl) (by kernel_rfl) (fun _ _ _ h => h) (Or.inl ⟨by rfl, ?hy20⟩) hS0 ?_
                  case hy20 => (intro w' hw'; have q1 := (hw'.cell (p := ⟨w7.heap.size, 4, none⟩) l7).trans KF4; go_simp; try with_reducible rfl)
                  simp only [List.getElem_toArray, List.getElem_cons_zero, List.getElem_cons_succ, Act.put, List.setIfInBounds_toArray, List.set_cons_zero, List.set_cons_succ]
                  refine wpAnyH_take (i := 29) (v := ?v21) rfl (by kernel_rfl) (by kernel_rfl) (by kernel_rfl) (fun _ _ _ h => h) (Or.inl ⟨by rfl, ?hy21⟩) hS0 ?_
                  case hy21 => (intro w' hw'; skip; go_simp; try with_reducible rfl)
                  simp only [List.getElem_toArray, List.getElem_cons_zero, List.getElem_cons_succ, Act.put, List.setIfInBounds_toArray, List.set_cons_zero, List.set_cons_succ]
                  refine wpAnyH_take (i := 30) (v := ?v22) rfl (by kernel_rfl) (by kernel_rfl) (by kernel_rfl) (fun _ _ _ h => h) (Or.inl ⟨by rfl, ?hy22⟩) hS0 ?_
                  case hy22 => (intro w' hw'; skip; go_simp; try with_reducible rfl)
                  simp only [List.getElem_toArray, List.getElem_cons_zero, List.getElem_cons_succ, Act.put, List.setIfInBounds_toArray, List.set_cons_zero, List.set_cons_succ]
                  refine wpAnyH_take (i := 31) rfl (by kernel_rfl) (by kernel_rfl) (by kernel_rfl) (fun _ _ _ h => h) (yieldsIf_load_mid (by rfl) 32 _ (by rfl) p4 11 (by rfl) [.int .i64 ku, .string tu, .bool bu, .slice aiu niu ciu, .slice afu nfu cfu, .int .i64 lnu, .int .i64 cou] _ (unhide RU4) Tryz.underlying32 (by rfl) (unhide HIT)) hS0 ?_
                  simp only [List.getElem_toArray, List.getElem_cons_zero, List.getElem_cons_succ, Act.put, List.setIfInBounds_toArray, List.set_cons_zero, List.set_cons_succ]
                  refine wpAnyH_take (i := 32) rfl (by kernel_rfl) (by kernel_rfl) (by kernel_rfl) (fun _ _ _ h => h) (yieldsIf_load_mid (by rfl) 32 _ (by rfl) w3.heap.size 0 (by rfl) [.int .i64 k2', .string t2, .bool bl2, .slice ai2 ni2 ci2, .slice af2 nf2 cf2, .int .i64 ln2, .int .i64 co2] _ (unhide RC) Tryz.underlying32 (by rfl) (unhide HIT)) hS0 ?_
                  simp only [List.getElem_toArray, List.getElem_cons_zero, List.getElem_cons_succ, Act.put, List.setIfInBounds_toArray, List.set_cons_zero, List.set_cons_succ]
                  refine rgn.one (i := 33) _ rfl (by kernel_rfl) (by rfl) ?_
                  simp only [List.getElem_toArray, List.getElem_cons_zero, List.getElem_cons_succ, Act.put, List.setIfInBounds_toArray, List.set_cons_zero, List.set_cons_succ]
                  go_wp2_with fail
                  refine ((unhide hC3) _ hS0).mono ?_
                  rintro e' vv ⟨rfl, zz1⟩
                  have hS1 : Below Z2.heap.size Z2 vv := hS0.trans (zz1.mono hS0.size)
                  refine ⟨hS1, ?_⟩
                  clear hS0 zz1
                  have hS0 := hS1
                  clear hS1
                  try simp only [List.getElem_toArray, List.getElem_cons_zero, List.getElem_cons_succ, Act.put, List.setIfInBounds_toArray, List.set_cons_zero, List.set_cons_succ]
                  as_aux_lemma =>
                    refine wpAnyH_take (i := 34) (v := ?v23) rfl (by kernel_rfl) (by kernel_rfl) (by kernel_rfl) (fun _ _ _ h => h) (Or.inl ⟨by rfl, ?hy23⟩) hS0 ?_
                    case hy23 => (intro w' hw'; skip; go_simp; try with_reducible rfl)
                    simp only [List.getElem_toArray, List.getElem_cons_zero, List.getElem_cons_succ, Act.put, List.setIfInBounds_toArray, List.set_cons_zero, List.set_cons_succ]
                    refine wpAnyH_take (i := 35) (v := ?v24) rfl (by kernel_rfl) (by kernel_rfl) (by kernel_rfl) (fun _ _ _ h => h) (Or.inl ⟨by rfl, ?hy24⟩) hS0 ?_
                    case hy24 => (intro w' hw'; skip; go_simp; try with_reducible rfl)
                    simp only [List.getElem_toArray, List.getElem_cons_zero, List.getElem_cons_succ, Act.put, List.setIfInBounds_toArray, List.set_cons_zero, List.set_cons_succ]
                    refine wpAnyH_take (i := 36) (v := ?v25) rfl (by kernel_rfl) (by kernel_rfl) (by kernel_rfl) (fun _ _ _ h => h) (Or.inl ⟨by rfl, ?hy25⟩) hS0 ?_
                    case hy25 => (intro w' hw'; skip; go_simp; try with_reducible rfl)
                    simp only [List.getElem_toArray, List.getElem_cons_zero, List.getElem_cons_succ, Act.put, List.setIfInBounds_toArray, List.set_cons_zero, List.set_cons_succ]
                    refine wpAnyH_take (i := 37) (v := ?v26) rfl (by kernel_rfl) (by kernel_rfl) (by kernel_rfl) (fun _ _ _ h => h) (Or.inl ⟨by rfl, ?hy26⟩) hS0 ?_
                    case hy26 => (intro w' hw'; skip; go_simp; try with_reducible rfl)
                    simp only [List.getElem_toArray, List.getElem_cons_zero, List.getElem_cons_succ, Act.put, List.setIfInBounds_toArray, List.set_cons_zero, List.set_cons_succ]
                    refine wpAnyH_take (i := 38) (v := ?v27) rfl (by kernel_rfl) (by kernel_rfl) (by kernel_rfl) (fun _ _ _ h => h) (Or.inl ⟨by rfl, ?hy27⟩) hS0 ?_
                    case hy27 => (intro w' hw'; have q1 := (hw'.cell (p := ⟨w7.heap.size, 4, none⟩) l7).trans KF4; go_simp; try with_reducible rfl)
                    simp only [List.getElem_toArray, List.getElem_cons_zero, List.getElem_cons_succ, Act.put, List.setIfInBounds_toArray, List.set_cons_zero, List.set_cons_succ]
                    refine wpAnyH_take (i := 39) (v := ?v28) rfl (by kernel_rfl) (by kernel_rfl) (by kernel_rfl) (fun _ _ _ h => h) (Or.inl ⟨by rfl, ?hy28⟩) hS0 ?_
                    case hy28 => (intro w' hw'; skip; go_simp; try with_reducible rfl)
                    simp only [List.getElem_toArray, List.getElem_cons_zero, List.getElem_cons_succ, Act.put, List.setIfInBounds_toArray, List.set_cons_zero, List.set_cons_succ]
                    refine wpAnyH_take (i := 40) (v := ?v29) rfl (by kernel_rfl) (by kernel_rfl) (by kernel_rfl) (fun _ _ _ h => h) (Or.inl ⟨by rfl, ?hy29⟩) hS0 ?_
                    case hy29 => (intro w' hw'; skip; go_simp; try with_reducible rfl)
                    simp only [List.getElem_toArray, List.getElem_cons_zero, List.getElem_cons_succ, Act.put, List.setIfInBounds_toArray, List.set_cons_zero, List.set_cons_succ]
                    refine wpAnyH_take (i := 41) (v := ?v30) rfl (by kernel_rfl) (by kernel_rfl) (by kernel_rfl) (fun _ _ _ h => h) (Or.inl ⟨by rfl, ?hy30⟩) hS0 ?_
                    case hy30 => (intro w' hw'; have q1 := (hw'.cell (p := ⟨p4, 0, none⟩) lp4).trans N40; go_simp; try with_reducible rfl)
                    simp only [List.getElem_toArray, List.getElem_cons_zero, List.getElem_cons_succ, Act.put, List.setIfInBounds_toArray, List.set_cons_zero, List.set_cons_succ]
                    refine wpAnyH_take (i := 42) (v := ?v31) rfl (by kernel_rfl) (by kernel_rfl) (by kernel_rfl) (fun _ _ _ h => h) (Or.inl ⟨by rfl, ?hy31⟩) hS0 ?_
                    case hy31 => (intro w' hw'; skip; go_simp; try with_reducible rfl)
                    simp only [List.getElem_toArray, List.getElem_cons_zero, List.getElem_cons_succ, Act.put, List.setIfInBounds_toArray, List.set_cons_zero, List.set_cons_succ]
                    refine wpAnyH_take (i := 43) (v := ?v32) rfl (by kernel_rfl) (by kernel_rfl) (by kernel_rfl) (fun _ _ _ h => h) (Or.inl ⟨by rfl, ?hy32⟩) hS0 ?_
                    case hy32 => (intro w' hw'; skip; go_simp; try with_reducible rfl)
                    simp only [List.getElem_toArray, List.getElem_cons_zero, List.getElem_cons_succ, Act.put, List.setIfInBounds_toArray, List.set_cons_zero, List.set_cons_succ]
                    refine wpAnyH_take (i := 44) (v := ?v33) rfl (by kernel_rfl) (by kernel_rfl) (by kernel_rfl) (fun _ _ _ h => h) (Or.inl ⟨by rfl, ?hy33⟩) hS0 ?_
                    case hy33 => (intro w' hw'; skip; go_simp; try with_reducible rfl)
                    simp only [List.getElem_toArray, List.getElem_cons_zero, List.getElem_cons_succ, Act.put, List.setIfInBounds_toArray, List.set_cons_zero, List.set_cons_succ]
                    refine wpAnyH_take (i := 45) (v := ?v34) rfl (by kernel_rfl) (by kernel_rfl) (by kernel_rfl) (fun _ _ _ h => h) (Or.inl ⟨by rfl, ?hy34⟩) hS0 ?_
                    case hy34 => (intro w' hw'; skip; go_simp; try with_reducible rfl)
                    simp only [List.getElem_toArray, List.getElem_cons_zero, List.getElem_cons_succ, Act.put, List.setIfInBounds_toArray, List.set_cons_zero, List.set_cons_succ]
                    refine wpAnyH_take (i := 46) (v := ?v35) rfl (by kernel_rfl) (by kernel_rfl) (by kernel_rfl) (fun _ _ _ h => h) (Or.inl ⟨by rfl, ?hy35⟩) hS0 ?_
                    case hy35 => (intro w' hw'; have q1 := (hw'.cell (p := ⟨w7.heap.size, 4, none⟩) l7).trans KF4; go_simp; try with_reducible rfl)
                    simp only [List.getElem_toArray, List.getElem_cons_zero, List.getElem_cons_succ, Act.put, List.setIfInBounds_toArray, List.set_cons_zero, List.set_cons_succ]
                    refine wpAnyH_take (i := 47) (v := ?v36) rfl (by kernel_rfl) (by kernel_rfl) (by kernel_rfl) (fun _ _ _ h => h) (Or.inl ⟨by rfl, ?hy36⟩) hS0 ?_
                    case hy36 => (intro w' hw'; skip; go_simp; try with_reducible rfl)
                    simp only [List.getElem_toArray, List.getElem_cons_zero, List.getElem_cons_succ, Act.put, List.setIfInBounds_toArray, List.set_cons_zero, List.set_cons_succ]
                    refine wpAnyH_take (i := 48) (v := ?v37) rfl (by kernel_rfl) (by kernel_rfl) (by kernel_rfl) (fun _ _ _ h => h) (Or.inl ⟨by rfl, ?hy37⟩) hS0 ?_
                    case hy37 => (intro w' hw'; skip; go_simp; try with_reducible rfl)
                    simp only [List.getElem_toArray, List.getElem_cons_zero, List.getElem_cons_succ, Act.put, List.setIfInBounds_toArray, List.set_cons_zero, List.set_cons_succ]
                    refine wpAnyH_take (i := 49) (v := ?v38) rfl (by kernel_rfl) (by kernel_rfl) (by kernel_rfl) (fun _ _ _ h => h) (Or.inl ⟨by rfl, ?hy38⟩) hS0 ?_
                    case hy38 => (intro w' hw'; have q1 := (hw'.cell (p := ⟨p4, 10, none⟩) lp4).trans N41; go_simp; try with_reducible rfl)
                    simp only [List.getElem_toArray, List.getElem_cons_zero, List.getElem_cons_succ, Act.put, List.setIfInBounds_toArray, List.set_cons_zero, List.set_cons_succ]
                    refine wpAnyH_take (i := 50) (v := ?v39) rfl (by kernel_rfl) (by kernel_rfl) (by kernel_rfl) (fun _ _ _ h => h) (Or.inl ⟨by rfl, ?hy39⟩) hS0 ?_
                    case hy39 => (intro w' hw'; skip; go_simp; try with_reducible rfl)
                    simp only [List.getElem_toArray, List.getElem_cons_zero, List.getElem_cons_succ, Act.put, List.setIfInBounds_toArray, List.set_cons_zero, List.set_cons_succ]
                    refine wpAnyH_take (i := 51) (v := ?v40) rfl (by kernel_rfl) (by kernel_rfl) (by kernel_rfl) (fun _ _ _ h => h) (Or.inl ⟨by rfl, ?hy40⟩) hS0 ?_
                    case hy40 => (intro w' hw'; skip; go_simp; try with_reducible rfl)
                    simp only [List.getElem_toArray, List.getElem_cons_zero, List.getElem_cons_succ, Act.put, List.setIfInBounds_toArray, List.set_cons_zero, List.set_cons_succ]
                    refine wpAnyH_done (by kernel_rfl) ?_ _; refine NoPanic.normal ?_
                    as_aux_lemma =>
                      have bwV : Below w.heap.size w vv := (unhide HBW).trans (hS0.mono (unhide HBW).size)
                      have kz2 := (unhide cz) vv bwV
                      have ky2 := (unhide cy) vv bwV
                      obtain ⟨S3, hS3⟩ : ∃ S, S = (⟨#[64, 100, 32, 64, 111, 110, 40, 110, 117, 108, 108, 58]⟩ : ByteArray) ++ s1 ++ ⟨#[10, 121, 58]⟩ ++ s2 ++ ⟨#[10, 41]⟩ := ⟨_, rfl⟩
                      have zS3 : mem.bytesZ S3 = sD z y := by rw [hS3, bytesZ_appN, bytesZ_appN, bytesZ_appN, bytesZ_appN, (unhide HZS).1, (unhide HZS).2.1]; rfl
                      have lS3 : S3.size ≤ 2097200 := by
                        have e := congrArg List.length zS3
                        rw [mem.bytesZ_len] at e
                        have h1 := (unhide HZL)
                        unfold sD at e
                        simp at e
                        omega
                      obtain ⟨cp8, W8, hc8, hr8, b8⟩ := conv_bytesN S3 vv
                      have hp9 := hide (newG_ok _ _ _ _ (L + 1) W8 hr8 (by omega) (mem.bytesZ_byt S3) ((unhide hwf) (L + 1) (by omega)))
                      rw [zS3] at hp9
                      have hlen : (newG (sD z y) (L + 1)).ts.length ≤ 1099511627777 := by
                        have e := toks_len (sD z y) (by rw [← zS3]; exact mem.bytesZ_byt S3)
                        have e2 : (sD z y).length = S3.size := by rw [← zS3, mem.bytesZ_len]
                        show (toks (sD z y)).length ≤ _
                        omega
                      have hDi := hide (dirs_all ct (toks (sD z y)).length (newG (sD z y) (L + 1)) (newG_ok' _ _) hlen (Nat.le_refl _))
                      have hc8' : (convert 9 22 (.string ((⟨#[64, 100, 32, 64, 111, 110, 40, 110, 117, 108, 108, 58]⟩ : ByteArray) ++ s1 ++ ⟨#[10, 121, 58]⟩ ++ s2 ++ ⟨#[10, 41]⟩))).run Tryz.prog vv = .ok (.slice (some ⟨vv.heap.size, 0, none⟩) S3.size cp8) W8 := by rw [← hS3]; exact hc8
                      have HV := hide (And.intro hS0 (And.intro b8 bwV))
                      clear hS3 zS3 lS3 hc8 hr8 b8 hlen hS0 bwV
                      go_wp2_with fail
                      refine (unhide hp9).mono ?_
                      rintro e w9 ⟨B, pB, rfl, hB, hpB, hcur, b9⟩
                      as_aux_lemma =>
                        obtain ⟨v5, u5, xa5, xb5, xc5, xd5, ya5, yb5, yc5, yd5, f5, g5, C5, hdr, hk5, hfn5, qv5, qu5⟩ := unhide HPD
                        have hD9 := (unhide hDi) B pB w9 hcur
                        unfold ptr at hD9 ⊢
                        rw [hdr] at hD9
                        have HD9 := hide hD9
                        have HB9 := hide (And.intro hB b9)
                        have hB9 := hcur.lt
                        clear hD9 hcur hDi hp9 hB b9 hpB kz2 ky2 hc8'
                        go_wp2_with fail
                        refine (unhide HD9).mono ?_
                        rintro e w10 ⟨sl, rfl, hbr, hcur, hk10⟩
                        obtain ⟨ad, nd, cd, Fd, rfl, hshd⟩ := brkD_full hbr
                        as_aux_lemma =>
                          have hnd : nd = 2 := by have := hshd.len; simpa using this
                          subst hnd
                          obtain ⟨hnn, hlsd⟩ := lst_ls hshd.at_
                          clear hnn
                          have rgd := hshd.rng
                          have hcl9 := hcur.lt
                          obtain ⟨hS0, b8, bwV⟩ := unhide HV
                          obtain ⟨hB, b9⟩ := unhide HB9
                          have bZ9 : Below Z2.heap.size Z2 w9 := (hS0.trans (b8.mono hS0.size)).trans (b9.mono (Nat.le_trans hS0.size b8.size))
                          have sB : Z2.heap.size ≤ B := Nat.le_trans (Nat.le_trans hS0.size b8.size) hB
                          have s9 := bZ9.size
                          have s10 := hk10.size
                          obtain ⟨OW1, RG1, OW2, RG2, GA, GC⟩ := unhide HOW
                          have GA10 := (hk10.block w2.heap.size (by omega) (by omega)).trans ((bZ9.block w2.heap.size l2).trans GA)
                          have GC10 := (hk10.block w3.heap.size (by omega) (by omega)).trans ((bZ9.block w3.heap.size l3).trans GC)
                          have OV10 : Ow w10 v _ F1 := dt.Ow.agree v _ F1 (fun b hb o => (hk10.cell (by have := RG1 b hb; omega) (by have := RG1 b hb; omega)).trans (bZ9.cell (p := ⟨b, o, none⟩) (RG1 b hb))) OW1
                          have OU10 : Ow w10 u _ F2 := dt.Ow.agree u _ F2 (fun b hb o => (hk10.cell (by have := RG2 b hb; omega) (by have := RG2 b hb; omega)).trans (bZ9.cell (p := ⟨b, o, none⟩) (RG2 b hb))) OW2
                          have bw9 : Below w.heap.size w w9 := (unhide HBW).trans (bZ9.mono (unhide HBW).size)
                          have bw10 : Below w.heap.size w w10 := bw9.trans (hk10.below (by have := (unhide HBW).size; omega) bw9.size)
                          obtain ⟨pd, od, rfl, hpdF, hgetd⟩ := hlsd.resolve_left (fun x => by simp at x)
                          obtain ⟨dsa, Ga, rowa, _, owa, hGa⟩ := hgetd 0 _ rfl
                          obtain ⟨dsb, Gb, rowb, _, owb, hGb⟩ := hgetd 1 _ rfl
                          obtain ⟨aa0, ca0, rfl, _, _, _⟩ := dir_cells owa
                          obtain ⟨aa1, ca1, rfl, hl1c, hc1m, hls1⟩ := dir_cells owb
                          obtain ⟨pe, oe, rfl, hpeF, hgete⟩ := hls1.resolve_left (fun x => by simp at x)
                          obtain ⟨dsx, Gx, rowx, _, owx, hGx⟩ := hgete 0 _ rfl
                          obtain ⟨dsy, Gy, rowy, _, owy, hGy⟩ := hgete 1 _ rfl
                          obtain ⟨kx, tx5, bx5, itx, flx, lnx, cox, hfx⟩ := eql_form qv5
                          obtain ⟨ky5, ty5, by5, ity, fly, lny, coy, hfy⟩ := eql_form qu5
                          have owx' : Ow w10 (fldD bNull (litD kx tx5 bx5 itx flx lnx cox) ya5 yb5) dsx Gx := by rw [← hfx]; exact owx
                          have owy' : Ow w10 (fldD byy (litD ky5 ty5 by5 ity fly lny coy) yc5 yd5) dsy Gy := by rw [← hfy]; exact owy
                          obtain ⟨aix, nix, cix, afx, nfx, cfx, hdx, owx5⟩ := fld_cells owx'
                          obtain ⟨aiy, niy, ciy, afy, nfy, cfy, hdy, owy5⟩ := fld_cells owy'
                          rw [← hfx] at owx5
                          rw [← hfy] at owy5
                          rw [hdx] at rowx
                          rw [hdy] at rowy
                          have hpd := rgd pd hpdF
                          have hpe := rgd pe (hGb pe hpeF)
                          have np : pd ≠ B := by omega
                          have ne : pe ≠ B := by omega
                          have lpd : pd < w10.heap.size := hpd.2
                          have lpe : pe < w10.heap.size := hpe.2
                          have n2B : w2.heap.size ≠ B := by omega
                          have n3B : w3.heap.size ≠ B := by omega
                          have m2 : w2.heap.size < w10.heap.size := by omega
                          have m3 : w3.heap.size < w10.heap.size := by omega
                          have D0 : w10.cell? ⟨pd, od, none⟩ = some (.string ⟨#[100]⟩) := by have h1 : w10.cell? ⟨pd, od + 0 * 4 + 0, none⟩ = some (.string ⟨#[100]⟩) := rowa 0 _ rfl; simpa using h1
                          have D1 : w10.cell? ⟨pd, od + 1, none⟩ = some (.slice aa0 0 ca0) := by have h1 := rowa 1 _ rfl; simpa using h1
                          have D4 : w10.cell? ⟨pd, od + 4, none⟩ = some (.string ⟨#[111, 110]⟩) := by have h1 : w10.cell? ⟨pd, od + 1 * 4 + 0, none⟩ = some (.string ⟨#[111, 110]⟩) := rowb 0 _ rfl; simpa using h1
                          have D5 : w10.cell? ⟨pd, od + 4 + 1, none⟩ = some (.slice (some ⟨pe, oe, none⟩) 2 ca1) := by have h1 := rowb 1 _ rfl; simpa using h1
                          have E0 : w10.cell? ⟨pe, oe, none⟩ = some (.string ⟨#[110, 117, 108, 108]⟩) := by have h1 : w10.cell? ⟨pe, oe + 0 * 10 + 0, none⟩ = some (.string ⟨#[110, 117, 108, 108]⟩) := rowx 0 _ rfl; simpa using h1
                          have E1 : w10.cell? ⟨pe, oe + 10, none⟩ = some (.string ⟨#[121]⟩) := by have h1 : w10.cell? ⟨pe, oe + 1 * 10 + 0, none⟩ = some (.string ⟨#[121]⟩) := rowy 0 _ rfl; simpa using h1
                          have rX : w10.rangeAt pe (oe + 1) [.int .i64 kx, .string tx5, .bool bx5, .slice aix nix cix, .slice afx nfx cfx, .int .i64 lnx, .int .i64 cox] := by have h1 : w10.rangeAt pe (oe + 0 * 10 + 1) [.int .i64 kx, .string tx5, .bool bx5, .slice aix nix cix, .slice afx nfx cfx, .int .i64 lnx, .int .i64 cox] := row_mid (r := [.int .i64 ya5, .int .i64 yb5]) (a := .string bNull) rowx; simpa using h1
                          have rY : w10.rangeAt pe (oe + 10 + 1) [.int .i64 ky5, .string ty5, .bool by5, .slice aiy niy ciy, .slice afy nfy cfy, .int .i64 lny, .int .i64 coy] := by have h1 : w10.rangeAt pe (oe + 1 * 10 + 1) [.int .i64 ky5, .string ty5, .bool by5, .slice aiy niy ciy, .slice afy nfy cfy, .int .i64 lny, .int .i64 coy] := row_mid (r := [.int .i64 yc5, .int .i64 yd5]) (a := .string byy) rowy; simpa using h1
                          have kp_rng : ∀ {W : World} {b o : Nat} {cs : List Value}, w10.rangeAt b o cs → Kp B w10 W → b < w10.heap.size → b ≠ B → W.rangeAt b o cs := fun h hk hl hne i x hx => (hk.cell hl hne).trans (h i x hx)
                          have RX := hide (fun W (hk : Kp B w10 W) => kp_rng rX hk lpe ne)
                          have RY := hide (fun W (hk : Kp B w10 W) => kp_rng rY hk lpe ne)
                          have RA2 := hide (fun W (hk : Kp B w10 W) => kp_rng (blk_rng (l := [.int .i64 k1, .string t1, .bool bl1, .slice ai1 ni1 ci1, .slice af1 nf1 cf1, .int .i64 ln1, .int .i64 co1]) GA10) hk m2 n2B)
                          have RC2 := hide (fun W (hk : Kp B w10 W) => kp_rng (blk_rng (l := [.int .i64 k2', .string t2, .bool bl2, .slice ai2 ni2 ci2, .slice af2 nf2 cf2, .int .i64 ln2, .int .i64 co2]) GC10) hk m3 n3B)
                          have gxl : ∀ b ∈ Gx, b < w10.heap.size ∧ b ≠ B := fun b hb => by have h1 := rgd b (hGb b (hGx b hb)); omega
                          have gyl : ∀ b ∈ Gy, b < w10.heap.size ∧ b ≠ B := fun b hb => by have h1 := rgd b (hGb b (hGy b hb)); omega
                          have f1l : ∀ b ∈ F1, b < w10.heap.size ∧ b ≠ B := fun b hb => by have h1 := RG1 b hb; omega
                          have f2l : ∀ b ∈ F2, b < w10.heap.size ∧ b ≠ B := fun b hb => by have h1 := RG2 b hb; omega
                          have hEn := hide (fun W (hb : Below w10.heap.size w10 W) => end_ok B pB C5 W (hcur.below hb))
                          have hC4 := hide (fun W (hk : Kp B w10 W) => same_f f5 v5 v qv5 W [.int .i64 kx, .string tx5, .bool bx5, .slice aix nix cix, .slice afx nfx cfx, .int .i64 lnx, .int .i64 cox] [.int .i64 k1, .string t1, .bool bl1, .slice ai1 ni1 ci1, .slice af1 nf1 cf1, .int .i64 ln1, .int .i64 co1] Gx F1 (dt.Ow.agree v5 _ Gx (fun b hb o => hk.cell (gxl b hb).1 (gxl b hb).2) owx5) (dt.Ow.agree v _ F1 (fun b hb o => hk.cell (f1l b hb).1 (f1l b hb).2) OV10) (fun b hb => Nat.lt_of_lt_of_le (gxl b hb).1 hk.size) (fun b hb => Nat.lt_of_lt_of_le (f1l b hb).1 hk.size))
                          have hC5 := hide (fun W (hk : Kp B w10 W) => same_f g5 u5 u qu5 W [.int .i64 ky5, .string ty5, .bool by5, .slice aiy niy ciy, .slice afy nfy cfy, .int .i64 lny, .int .i64 coy] [.int .i64 k2', .string t2, .bool bl2, .slice ai2 ni2 ci2, .slice af2 nf2 cf2, .int .i64 ln2, .int .i64 co2] Gy F2 (dt.Ow.agree u5 _ Gy (fun b hb o => hk.cell (gyl b hb).1 (gyl b hb).2) owy5) (dt.Ow.agree u _ F2 (fun b hb o => hk.cell (f2l b hb).1 (f2l b hb).2) OU10) (fun b hb => Nat.lt_of_lt_of_le (gyl b hb).1 hk.size) (fun b hb => Nat.lt_of_lt_of_le (f2l b hb).1 hk.size))
                          have HBF := hide (And.intro bw10 (show w.heap.size ≤ B by have := (unhide HBW).size; omega))
                          have hcdl : (2 : Int) ≤ (cd : Int) := by have := hshd.nc; omega
                          have hcal : (2 : Int) ≤ (ca1 : Int) := by have h1 : 2 ≤ ca1 := hl1c; omega
                          unfold ptr at hEn
                          clear hshd hlsd rgd hcl9 hS0 b8 bwV hB b9 bZ9 sB s9 s10 OW1 RG1 OW2 RG2 GA GC GA10 GC10 OV10 OU10 bw9 bw10 hpdF hgetd rowa owa hGa rowb owb hGb hls1 hpeF hgete rowx owx hGx rowy owy hGy hfx hfy owx' owy' hdx hdy owx5 owy5 hpd hpe rX rY kp_rng gxl gyl f1l f2l hcur hbr hk10 qv5 qu5 HV HB9 HD9 HOW HPD hdr hl1c hc1m l2 l3 l5 l7 lp3 lp4 KE3 KF4 N40 N41 RA RC RV3 RU3 RV4 RU4 hC0 hC1 hC2 hC3 HIdsv3 HIdsu3 hk5 m2 m3 n2B n3B HBW
                          go_wp2_with fail
                          have hS0 : Kp B w10 { w10 with drawn := w10.drawn + 1 } := Kp.of (Below.refl _ _).drew
                          as_aux_lemma =>
                            refine wp_region_noPanic ?_
                            refine wp_region_held (S := fun w' => Kp B w10 w') mixed ?_
                            refine wpAnyH_take (i := 0) (v := ?v41) rfl (by kernel_rfl) (by kernel_rfl) (by kernel_rfl) (fun _ _ _ h => h) (Or.inl ⟨by rfl, ?hy41⟩) hS0 ?_
                            case hy41 => (intro w' hw'; skip; go_simp; try with_reducible rfl)
                            simp only [List.getElem_toArray, List.getElem_cons_zero, List.getElem_cons_succ, Act.put, List.setIfInBounds_toArray, List.set_cons_zero, List.set_cons_succ]
                            refine wpAnyH_take (i := 1) (v := ?v42) rfl (by kernel_rfl) (by kernel_rfl) (by kernel_rfl) (fun _ _ _ h => h) (Or.inl ⟨by rfl, ?hy42⟩) hS0 ?_
                            case hy42 => (intro w' hw'; skip; go_simp; try with_reducible rfl)
                            simp only [List.getElem_toArray, List.getElem_cons_zero, List.getElem_cons_succ, Act.put, List.setIfInBounds_toArray, List.set_cons_zero, List.set_cons_succ]
                            refine wpAnyH_take (i := 2) (v := ?v43) rfl (by kernel_rfl) (by kernel_rfl) (by kernel_rfl) (fun _ _ _ h => h) (Or.inl ⟨by rfl, ?hy43⟩) hS0 ?_
                            case hy43 => (intro w' hw'; skip; go_simp; try with_reducible rfl)
                            simp only [List.getElem_toArray, List.getElem_cons_zero, List.getElem_cons_succ, Act.put, List.setIfInBounds_toArray, List.set_cons_zero, List.set_cons_succ]
                            refine rgn.one (i := 3) _ rfl (by kernel_rfl) (by rfl) ?_
                            simp only [List.getElem_toArray, List.getElem_cons_zero, List.getElem_cons_succ, Act.put, List.setIfInBounds_toArray, List.set_cons_zero, List.set_cons_succ]
                            go_wp2_with fail
                            refine ((unhide hEn) _ (Below.refl _ _).drew).mono ?_
                            rintro e' vx ⟨rfl, hcx, zz1⟩
                            rw [hfn5]
                            have hS1 : Kp B w10 vx := hS0.trans zz1
                            refine ⟨hS1, ?_⟩
                            clear hS0 zz1 hcx
                            have hS0 := hS1
                            clear hS1
                            try simp only [List.getElem_toArray, List.getElem_cons_zero, List.getElem_cons_succ, Act.put, List.setIfInBounds_toArray, List.set_cons_zero, List.set_cons_succ]
                            as_aux_lemma =>
                              refine wpAnyH_take (i := 4) (v := ?v44) rfl (by kernel_rfl) (by kernel_rfl) (by kernel_rfl) (fun _ _ _ h => h) (Or.inl ⟨by rfl, ?hy44⟩) hS0 ?_
                              case hy44 => (intro w' hw'; skip; go_simp; try with_reducible rfl)
                              simp only [List.getElem_toArray, List.getElem_cons_zero, List.getElem_cons_succ, Act.put, List.setIfInBounds_toArray, List.set_cons_zero, List.set_cons_succ]
                              refine wpAnyH_take (i := 5) (v := ?v45) rfl (by kernel_rfl) (by kernel_rfl) (by kernel_rfl) (fun _ _ _ h => h) (Or.inl ⟨by rfl, ?hy45⟩) hS0 ?_
                              case hy45 => (intro w' hw'; skip; go_simp; try with_reducible rfl)
                              simp only [List.getElem_toArray, List.getElem_cons_zero, List.getElem_cons_succ, Act.put, List.setIfInBounds_toArray, List.set_cons_zero, List.set_cons_succ]
                              refine wpAnyH_take (i := 6) (v := ?v46) rfl (by kernel_rfl) (by kernel_rfl) (by kernel_rfl) (fun _ _ _ h => h) (Or.inl ⟨by rfl, ?hy46⟩) hS0 ?_
                              case hy46 => (intro w' hw'; skip; go_simp; try with_reducible rfl)
                              simp only [List.getElem_toArray, List.getElem_cons_zero, List.getElem_cons_succ, Act.put, List.setIfInBounds_toArray, List.set_cons_zero, List.set_cons_succ]
                              refine wpAnyH_take (i := 7) (v := ?v47) rfl (by kernel_rfl) (by kernel_rfl) (by kernel_rfl) (fun _ _ _ h => h) (Or.inl ⟨by rfl, ?hy47⟩) hS0 ?_
                              case hy47 => (intro w' hw'; skip; go_simp; try with_reducible rfl)
                              simp only [List.getElem_toArray, List.getElem_cons_zero, List.getElem_cons_succ, Act.put, List.setIfInBounds_toArray, List.set_cons_zero, List.set_cons_succ]
                              refine wpAnyH_take (i := 8) (v := ?v48) rfl (by kernel_rfl) (by kernel_rfl) (by kernel_rfl) (fun _ _ _ h => h) (Or.inl ⟨by rfl, ?hy48⟩) hS0 ?_
                              case hy48 => (intro w' hw'; skip; go_simp; try with_reducible rfl)
                              simp only [List.getElem_toArray, List.getElem_cons_zero, List.getElem_cons_succ, Act.put, List.setIfInBounds_toArray, List.set_cons_zero, List.set_cons_succ]
                              refine wpAnyH_take (i := 9) (v := ?v49) rfl (by kernel_rfl) (by kernel_rfl) (by kernel_rfl) (fun _ _ _ h => h) (Or.inl ⟨by rfl, ?hy49⟩) hS0 ?_
                              case hy49 => (intro w' hw'; skip; go_simp; try with_reducible rfl)
                              simp only [List.getElem_toArray, List.getElem_cons_zero, List.getElem_cons_succ, Act.put, List.setIfInBounds_toArray, List.set_cons_zero, List.set_cons_succ]
                              refine wpAnyH_take (i := 10) (v := ?v50) rfl (by kernel_rfl) (by kernel_rfl) (by kernel_rfl) (fun _ _ _ h => h) (Or.inl ⟨by rfl, ?hy50⟩) hS0 ?_
                              case hy50 => (intro w' hw'; skip; go_simp; try with_reducible rfl)
                              simp only [List.getElem_toArray, List.getElem_cons_zero, List.getElem_cons_succ, Act.put, List.setIfInBounds_toArray, List.set_cons_zero, List.set_cons_succ]
                              refine wpAnyH_take (i := 11) (v := ?v51) rfl (by kernel_rfl) (by kernel_rfl) (by kernel_rfl) (fun _ _ _ h => h) (Or.inl ⟨by rfl, ?hy51⟩) hS0 ?_
                              case hy51 => (intro w' hw'; skip; go_simp; try with_reducible rfl)
                              simp only [List.getElem_toArray, List.getElem_cons_zero, List.getElem_cons_succ, Act.put, List.setIfInBounds_toArray, List.set_cons_zero, List.set_cons_succ]
                              refine wpAnyH_take (i := 12) (v := ?v52) rfl (by kernel_rfl) (by kernel_rfl) (by kernel_rfl) (fun _ _ _ h => h) (Or.inl ⟨by rfl, ?hy52⟩) hS0 ?_
                              case hy52 => (intro w' hw'; skip; go_simp; try with_reducible rfl)
                              simp only [List.getElem_toArray, List.getElem_cons_zero, List.getElem_cons_succ, Act.put, List.setIfInBounds_toArray, List.set_cons_zero, List.set_cons_succ]
                              refine wpAnyH_take (i := 13) (v := ?v53) rfl (by kernel_rfl) (by kernel_rfl) (by kernel_rfl) (fun _ _ _ h => h) (Or.inl ⟨by rfl, ?hy53⟩) hS0 ?_
                              case hy53 => (intro w' hw'; skip; go_simp; try with_reducible rfl)
                              simp only [List.getElem_toArray, List.getElem_cons_zero, List.getElem_cons_succ, Act.put, List.setIfInBounds_toArray, List.set_cons_zero, List.set_cons_succ]
                              refine wpAnyH_take (i := 14) (v := ?v54) rfl (by kernel_rfl) (by kernel_rfl) (by kernel_rfl) (fun _ _ _ h => h) (Or.inl ⟨by rfl, ?hy54⟩) hS0 ?_
                              case hy54 => (intro w' hw'; have q1 := (hw'.cell (o := od) lpd np).trans D0; go_simp; try with_reducible rfl)
                              simp only [List.getElem_toArray, List.getElem_cons_zero, List.getElem_cons_succ, Act.put, List.setIfInBounds_toArray, List.set_cons_zero, List.set_cons_succ]
                              refine wpAnyH_take (i := 15) (v := ?v55) rfl (by kernel_rfl) (by kernel_rfl) (by kernel_rfl) (fun _ _ _ h => h) (Or.inl ⟨by rfl, ?hy55⟩) hS0 ?_
                              case hy55 => (intro w' hw'; skip; go_simp; try with_reducible rfl)
                              simp only [List.getElem_toArray, List.getElem_cons_zero, List.getElem_cons_succ, Act.put, List.setIfInBounds_toArray, List.set_cons_zero, List.set_cons_succ]
                              refine wpAnyH_take (i := 16) (v := ?v56) rfl (by kernel_rfl) (by kernel_rfl) (by kernel_rfl) (fun _ _ _ h => h) (Or.inl ⟨by rfl, ?hy56⟩) hS0 ?_
                              case hy56 => (intro w' hw'; skip; go_simp; try with_reducible rfl)
                              simp only [List.getElem_toArray, List.getElem_cons_zero, List.getElem_cons_succ, Act.put, List.setIfInBounds_toArray, List.set_cons_zero, List.set_cons_succ]
                              refine wpAnyH_take (i := 17) (v := ?v57) rfl (by kernel_rfl) (by kernel_rfl) (by kernel_rfl) (fun _ _ _ h => h) (Or.inl ⟨by rfl, ?hy57⟩) hS0 ?_
                              case hy57 => (intro w' hw'; skip; go_simp; try with_reducible rfl)
                              simp only [List.getElem_toArray, List.getElem_cons_zero, List.getElem_cons_succ, Act.put, List.setIfInBounds_toArray, List.set_cons_zero, List.set_cons_succ]
                              refine wpAnyH_take (i := 18) (v := ?v58) rfl (by kernel_rfl) (by kernel_rfl) (by kernel_rfl) (fun _ _ _ h => h) (Or.inl ⟨by rfl, ?hy58⟩) hS0 ?_
                              case hy58 => (intro w' hw'; skip; go_simp; try with_reducible rfl)
                              simp only [List.getElem_toArray, List.getElem_cons_zero, List.getElem_cons_succ, Act.put, List.setIfInBounds_toArray, List.set_cons_zero, List.set_cons_succ]
                              refine wpAnyH_take (i := 19) (v := ?v59) rfl (by kernel_rfl) (by kernel_rfl) (by kernel_rfl) (fun _ _ _ h => h) (Or.inl ⟨by rfl, ?hy59⟩) hS0 ?_
                              case hy59 => (intro w' hw'; skip; go_simp; try with_reducible rfl)
                              simp only [List.getElem_toArray, List.getElem_cons_zero, List.getElem_cons_succ, Act.put, List.setIfInBounds_toArray, List.set_cons_zero, List.set_cons_succ]
                              refine wpAnyH_take (i := 20) (v := ?v60) rfl (by kernel_rfl) (by kernel_rfl) (by kernel_rfl) (fun _ _ _ h => h) (Or.inl ⟨by rfl, ?hy60⟩) hS0 ?_
                              case hy60 => (intro w' hw'; skip; go_simp; try with_reducible rfl)
                              simp only [List.getElem_toArray, List.getElem_cons_zero, List.getElem_cons_succ, Act.put, List.setIfInBounds_toArray, List.set_cons_zero, List.set_cons_succ]
                              refine wpAnyH_take (i := 21) (v := ?v61) rfl (by kernel_rfl) (by kernel_rfl) (by kernel_rfl) (fun _ _ _ h => h) (Or.inl ⟨by rfl, ?hy61⟩) hS0 ?_
                              case hy61 => (intro w' hw'; have q1 := (hw'.cell (o := od + 1) lpd np).trans D1; go_simp; try with_reducible rfl)
                              simp only [List.getElem_toArray, List.getElem_cons_zero, List.getElem_cons_succ, Act.put, List.setIfInBounds_toArray, List.set_cons_zero, List.set_cons_succ]
                              refine wpAnyH_take (i := 22) (v := ?v62) rfl (by kernel_rfl) (by kernel_rfl) (by kernel_rfl) (fun _ _ _ h => h) (Or.inl ⟨by rfl, ?hy62⟩) hS0 ?_
                              case hy62 => (intro w' hw'; skip; go_simp; try with_reducible rfl)
                              simp only [List.getElem_toArray, List.getElem_cons_zero, List.getElem_cons_succ, Act.put, List.setIfInBounds_toArray, List.set_cons_zero, List.set_cons_succ]
                              refine wpAnyH_take (i := 23) (v := ?v63) rfl (by kernel_rfl) (by kernel_rfl) (by kernel_rfl) (fun _ _ _ h => h) (Or.inl ⟨by rfl, ?hy63⟩) hS0 ?_
                              case hy63 => (intro w' hw'; skip; go_simp; try with_reducible rfl)
                              simp only [List.getElem_toArray, List.getElem_cons_zero, List.getElem_cons_succ, Act.put, List.setIfInBounds_toArray, List.set_cons_zero, List.set_cons_succ]
                              refine wpAnyH_take (i := 24) (v := ?v64) rfl (by kernel_rfl) (by kernel_rfl) (by kernel_rfl) (fun _ _ _ h => h) (Or.inl ⟨by rfl, ?hy64⟩) hS0 ?_
                              case hy64 => (intro w' hw'; skip; go_simp; try with_reducible rfl)
                              simp only [List.getElem_toArray, List.getElem_cons_zero, List.getElem_cons_succ, Act.put, List.setIfInBounds_toArray, List.set_cons_zero, List.set_cons_succ]
                              refine wpAnyH_take (i := 25) (v := ?v65) rfl (by kernel_rfl) (by kernel_rfl) (by kernel_rfl) (fun _ _ _ h => h) (Or.inl ⟨by rfl, ?hy65⟩) hS0 ?_
                              case hy65 => (intro w' hw'; skip; go_simp; try with_reducible rfl)
                              simp only [List.getElem_toArray, List.getElem_cons_zero, List.getElem_cons_succ, Act.put, List.setIfInBounds_toArray, List.set_cons_zero, List.set_cons_succ]
                              refine wpAnyH_take (i := 26) (v := ?v66) rfl (by kernel_rfl) (by kernel_rfl) (by kernel_rfl) (fun _ _ _ h => h) (Or.inl ⟨by rfl, ?hy66⟩) hS0 ?_
                              case hy66 => (intro w' hw'; skip; go_simp; try with_reducible rfl)
                              simp only [List.getElem_toArray, List.getElem_cons_zero, List.getElem_cons_succ, Act.put, List.setIfInBounds_toArray, List.set_cons_zero, List.set_cons_succ]
                              refine wpAnyH_take (i := 27) (v := ?v67) rfl (by kernel_rfl) (by kernel_rfl) (by kernel_rfl) (fun _ _ _ h => h) (Or.inl ⟨by rfl, ?hy67⟩) hS0 ?_
                              case hy67 => (intro w' hw'; skip; go_simp; try with_reducible rfl)
                              simp only [List.getElem_toArray, List.getElem_cons_zero, List.getElem_cons_succ, Act.put, List.setIfInBounds_toArray, List.set_cons_zero, List.set_cons_succ]
                              refine wpAnyH_take (i := 28) (v := ?v68) rfl (by kernel_rfl) (by kernel_rfl) (by kernel_rfl) (fun _ _ _ h => h) (Or.inl ⟨by rfl, ?hy68⟩) hS0 ?_
                              case hy68 => (intro w' hw'; skip; go_simp; try with_reducible rfl)
                              simp only [List.getElem_toArray, List.getElem_cons_zero, List.getElem_cons_succ, Act.put, List.setIfInBounds_toArray, List.set_cons_zero, List.set_cons_succ]
                              refine wpAnyH_take (i := 29) (v := ?v69) rfl (by kernel_rfl) (by kernel_rfl) (by kernel_rfl) (fun _ _ _ h => h) (Or.inl ⟨by rfl, ?hy69⟩) hS0 ?_
                              case hy69 => (intro w' hw'; have q1 := (hw'.cell (o := od + 4) lpd np).trans D4; go_simp; try with_reducible rfl)
                              simp only [List.getElem_toArray, List.getElem_cons_zero, List.getElem_cons_succ, Act.put, List.setIfInBounds_toArray, List.set_cons_zero, List.set_cons_succ]
                              refine wpAnyH_take (i := 30) (v := ?v70) rfl (by kernel_rfl) (by kernel_rfl) (by kernel_rfl) (fun _ _ _ h => h) (Or.inl ⟨by rfl, ?hy70⟩) hS0 ?_
                              case hy70 => (intro w' hw'; skip; go_simp; try with_reducible rfl)
                              simp only [List.getElem_toArray, List.getElem_cons_zero, List.getElem_cons_succ, Act.put, List.setIfInBounds_toArray, List.set_cons_zero, List.set_cons_succ]
                              refine wpAnyH_take (i := 31) (v := ?v71) rfl (by kernel_rfl) (by kernel_rfl) (by kernel_rfl) (fun _ _ _ h => h) (Or.inl ⟨by rfl, ?hy71⟩) hS0 ?_
                              case hy71 => (intro w' hw'; skip; go_simp; try with_reducible rfl)
                              simp only [List.getElem_toArray, List.getElem_cons_zero, List.getElem_cons_succ, Act.put, List.setIfInBounds_toArray, List.set_cons_zero, List.set_cons_succ]
                              refine wpAnyH_take (i := 32) (v := ?v72) rfl (by kernel_rfl) (by kernel_rfl) (by kernel_rfl) (fun _ _ _ h => h) (Or.inl ⟨by rfl, ?hy72⟩) hS0 ?_
                              case hy72 => (intro w' hw'; skip; go_simp; try with_reducible rfl)
                              simp only [List.getElem_toArray, List.getElem_cons_zero, List.getElem_cons_succ, Act.put, List.setIfInBounds_toArray, List.set_cons_zero, List.set_cons_succ]
                              refine wpAnyH_take (i := 33) (v := ?v73) rfl (by kernel_rfl) (by kernel_rfl) (by kernel_rfl) (fun _ _ _ h => h) (Or.inl ⟨by rfl, ?hy73⟩) hS0 ?_
                              case hy73 => (intro w' hw'; skip; go_simp; try with_reducible rfl)
                              simp only [List.getElem_toArray, List.getElem_cons_zero, List.getElem_cons_succ, Act.put, List.setIfInBounds_toArray, List.set_cons_zero, List.set_cons_succ]
                              refine wpAnyH_take (i := 34) (v := ?v74) rfl (by kernel_rfl) (by kernel_rfl) (by kernel_rfl) (fun _ _ _ h => h) (Or.inl ⟨by rfl, ?hy74⟩) hS0 ?_
                              case hy74 => (intro w' hw'; skip; go_simp; try with_reducible rfl)
                              simp only [List.getElem_toArray, List.getElem_cons_zero, List.getElem_cons_succ, Act.put, List.setIfInBounds_toArray, List.set_cons_zero, List.set_cons_succ]
                              refine wpAnyH_take (i := 35) (v := ?v75) rfl (by kernel_rfl) (by kernel_rfl) (by kernel_rfl) (fun _ _ _ h => h) (Or.inl ⟨by rfl, ?hy75⟩) hS0 ?_
                              case hy75 => (intro w' hw'; skip; go_simp; try with_reducible rfl)
                              simp only [List.getElem_toArray, List.getElem_cons_zero, List.getElem_cons_succ, Act.put, List.setIfInBounds_toArray, List.set_cons_zero, List.set_cons_succ]
                              refine wpAnyH_take (i := 36) (v := ?v76) rfl (by kernel_rfl) (by kernel_rfl) (by kernel_rfl) (fun _ _ _ h => h) (Or.inl ⟨by rfl, ?hy76⟩) hS0 ?_
                              case hy76 => (intro w' hw'; have q1 := (hw'.cell (o := od + 4 + 1) lpd np).trans D5; go_simp; try with_reducible rfl)
                              simp only [List.getElem_toArray, List.getElem_cons_zero, List.getElem_cons_succ, Act.put, List.setIfInBounds_toArray, List.set_cons_zero, List.set_cons_succ]
                              refine wpAnyH_take (i := 37) (v := ?v77) rfl (by kernel_rfl) (by kernel_rfl) (by kernel_rfl) (fun _ _ _ h => h) (Or.inl ⟨by rfl, ?hy77⟩) hS0 ?_
                              case hy77 => (intro w' hw'; skip; go_simp; try with_reducible rfl)
                              simp only [List.getElem_toArray, List.getElem_cons_zero, List.getElem_cons_succ, Act.put, List.setIfInBounds_toArray, List.set_cons_zero, List.set_cons_succ]
                              refine wpAnyH_take (i := 38) (v := ?v78) rfl (by kernel_rfl) (by kernel_rfl) (by kernel_rfl) (fun _ _ _ h => h) (Or.inl ⟨by rfl, ?hy78⟩) hS0 ?_
                              case hy78 => (intro w' hw'; skip; go_simp; try with_reducible rfl)
                              simp only [List.getElem_toArray, List.getElem_cons_zero, List.getElem_cons_succ, Act.put, List.setIfInBounds_toArray, List.set_cons_zero, List.set_cons_succ]
                              refine wpAnyH_take (i := 39) (v := ?v79) rfl (by kernel_rfl) (by kernel_rfl) (by kernel_rfl) (fun _ _ _ h => h) (Or.inl ⟨by rfl, ?hy79⟩) hS0 ?_
                              case hy79 => (intro w' hw'; skip; go_simp; try with_reducible rfl)
                              simp only [List.getElem_toArray, List.getElem_cons_zero, List.getElem_cons_succ, Act.put, List.setIfInBounds_toArray, List.set_cons_zero, List.set_cons_succ]
                              refine wpAnyH_take (i := 40) (v := ?v80) rfl (by kernel_rfl) (by kernel_rfl) (by kernel_rfl) (fun _ _ _ h => h) (Or.inl ⟨by rfl, ?hy80⟩) hS0 ?_
                              case hy80 => (intro w' hw'; skip; go_simp; try with_reducible rfl)
                              simp only [List.getElem_toArray, List.getElem_cons_zero, List.getElem_cons_succ, Act.put, List.setIfInBounds_toArray, List.set_cons_zero, List.set_cons_succ]
                              refine wpAnyH_take (i := 41) (v := ?v81) rfl (by kernel_rfl) (by kernel_rfl) (by kernel_rfl) (fun _ _ _ h => h) (Or.inl ⟨by rfl, ?hy81⟩) hS0 ?_
                              case hy81 => (intro w' hw'; skip; go_simp; try with_reducible rfl)
                              simp only [List.getElem_toArray, List.getElem_cons_zero, List.getElem_cons_succ, Act.put, List.setIfInBounds_toArray, List.set_cons_zero, List.set_cons_succ]
                              refine wpAnyH_take (i := 42) (v := ?v82) rfl (by kernel_rfl) (by kernel_rfl) (by kernel_rfl) (fun _ _ _ h => h) (Or.inl ⟨by rfl, ?hy82⟩) hS0 ?_
                              case hy82 => (intro w' hw'; skip; go_simp; try with_reducible rfl)
                              simp only [List.getElem_toArray, List.getElem_cons_zero, List.getElem_cons_succ, Act.put, List.setIfInBounds_toArray, List.set_cons_zero, List.set_cons_succ]
                              refine wpAnyH_take (i := 43) (v := ?v83) rfl (by kernel_rfl) (by kernel_rfl) (by kernel_rfl) (fun _ _ _ h => h) (Or.inl ⟨by rfl, ?hy83⟩) hS0 ?_
                              case hy83 => (intro w' hw'; skip; go_simp; try with_reducible rfl)
                              simp only [List.getElem_toArray, List.getElem_cons_zero, List.getElem_cons_succ, Act.put, List.setIfInBounds_toArray, List.set_cons_zero, List.set_cons_succ]
                              as_aux_lemma =>
                                refine wpAnyH_take (i := 44) (v := ?v84) rfl (by kernel_rfl) (by kernel_rfl) (by kernel_rfl) (fun _ _ _ h => h) (Or.inl ⟨by rfl, ?hy84⟩) hS0 ?_
                                case hy84 => (intro w' hw'; have q1 := (hw'.cell (o := od + 4 + 1) lpd np).trans D5; go_simp; try with_reducible rfl)
                                simp only [List.getElem_toArray, List.getElem_cons_zero, List.getElem_cons_succ, Act.put, List.setIfInBounds_toArray, List.set_cons_zero, List.set_cons_succ]
                                refine wpAnyH_take (i := 45) (v := ?v85) rfl (by kernel_rfl) (by kernel_rfl) (by kernel_rfl) (fun _ _ _ h => h) (Or.inl ⟨by rfl, ?hy85⟩) hS0 ?_
                                case hy85 => (intro w' hw'; skip; go_simp; try with_reducible rfl)
                                simp only [List.getElem_toArray, List.getElem_cons_zero, List.getElem_cons_succ, Act.put, List.setIfInBounds_toArray, List.set_cons_zero, List.set_cons_succ]
                                refine wpAnyH_take (i := 46) (v := ?v86) rfl (by kernel_rfl) (by kernel_rfl) (by kernel_rfl) (fun _ _ _ h => h) (Or.inl ⟨by rfl, ?hy86⟩) hS0 ?_
                                case hy86 => (intro w' hw'; skip; go_simp; try with_reducible rfl)
                                simp only [List.getElem_toArray, List.getElem_cons_zero, List.getElem_cons_succ, Act.put, List.setIfInBounds_toArray, List.set_cons_zero, List.set_cons_succ]
                                refine wpAnyH_take (i := 47) (v := ?v87) rfl (by kernel_rfl) (by kernel_rfl) (by kernel_rfl) (fun _ _ _ h => h) (Or.inl ⟨by rfl, ?hy87⟩) hS0 ?_
                                case hy87 => (intro w' hw'; have q1 := (hw'.cell (o := oe) lpe ne).trans E0; go_simp; try with_reducible rfl)
                                simp only [List.getElem_toArray, List.getElem_cons_zero, List.getElem_cons_succ, Act.put, List.setIfInBounds_toArray, List.set_cons_zero, List.set_cons_succ]
                                refine wpAnyH_take (i := 48) (v := ?v88) rfl (by kernel_rfl) (by kernel_rfl) (by kernel_rfl) (fun _ _ _ h => h) (Or.inl ⟨by rfl, ?hy88⟩) hS0 ?_
                                case hy88 => (intro w' hw'; skip; go_simp; try with_reducible rfl)
                                simp only [List.getElem_toArray, List.getElem_cons_zero, List.getElem_cons_succ, Act.put, List.setIfInBounds_toArray, List.set_cons_zero, List.set_cons_succ]
                                refine wpAnyH_take (i := 49) (v := ?v89) rfl (by kernel_rfl) (by kernel_rfl) (by kernel_rfl) (fun _ _ _ h => h) (Or.inl ⟨by rfl, ?hy89⟩) hS0 ?_
                                case hy89 => (intro w' hw'; skip; go_simp; try with_reducible rfl)
                                simp only [List.getElem_toArray, List.getElem_cons_zero, List.getElem_cons_succ, Act.put, List.setIfInBounds_toArray, List.set_cons_zero, List.set_cons_succ]
                                refine wpAnyH_take (i := 50) (v := ?v90) rfl (by kernel_rfl) (by kernel_rfl) (by kernel_rfl) (fun _ _ _ h => h) (Or.inl ⟨by rfl, ?hy90⟩) hS0 ?_
                                case hy90 => (intro w' hw'; skip; go_simp; try with_reducible rfl)
                                simp only [List.getElem_toArray, List.getElem_cons_zero, List.getElem_cons_succ, Act.put, List.setIfInBounds_toArray, List.set_cons_zero, List.set_cons_succ]
                                refine wpAnyH_take (i := 51) (v := ?v91) rfl (by kernel_rfl) (by kernel_rfl) (by kernel_rfl) (fun _ _ _ h => h) (Or.inl ⟨by rfl, ?hy91⟩) hS0 ?_
                                case hy91 => (intro w' hw'; skip; go_simp; try with_reducible rfl)
                                simp only [List.getElem_toArray, List.getElem_cons_zero, List.getElem_cons_succ, Act.put, List.setIfInBounds_toArray, List.set_cons_zero, List.set_cons_succ]
                                refine wpAnyH_take (i := 52) (v := ?v92) rfl (by kernel_rfl) (by kernel_rfl) (by kernel_rfl) (fun _ _ _ h => h) (Or.inl ⟨by rfl, ?hy92⟩) hS0 ?_
                                case hy92 => (intro w' hw'; skip; go_simp; try with_reducible rfl)
                                simp only [List.getElem_toArray, List.getElem_cons_zero, List.getElem_cons_succ, Act.put, List.setIfInBounds_toArray, List.set_cons_zero, List.set_cons_succ]
                                refine wpAnyH_take (i := 53) (v := ?v93) rfl (by kernel_rfl) (by kernel_rfl) (by kernel_rfl) (fun _ _ _ h => h) (Or.inl ⟨by rfl, ?hy93⟩) hS0 ?_
                                case hy93 => (intro w' hw'; skip; go_simp; try with_reducible rfl)
                                simp only [List.getElem_toArray, List.getElem_cons_zero, List.getElem_cons_succ, Act.put, List.setIfInBounds_toArray, List.set_cons_zero, List.set_cons_succ]
                                refine wpAnyH_take (i := 54) (v := ?v94) rfl (by kernel_rfl) (by kernel_rfl) (by kernel_rfl) (fun _ _ _ h => h) (Or.inl ⟨by rfl, ?hy94⟩) hS0 ?_
                                case hy94 => (intro w' hw'; have q1 := (hw'.cell (o := od + 4 + 1) lpd np).trans D5; go_simp; try with_reducible rfl)
                                simp only [List.getElem_toArray, List.getElem_cons_zero, List.getElem_cons_succ, Act.put, List.setIfInBounds_toArray, List.set_cons_zero, List.set_cons_succ]
                                refine wpAnyH_take (i := 55) (v := ?v95) rfl (by kernel_rfl) (by kernel_rfl) (by kernel_rfl) (fun _ _ _ h => h) (Or.inl ⟨by rfl, ?hy95⟩) hS0 ?_
                                case hy95 => (intro w' hw'; skip; go_simp; try with_reducible rfl)
                                simp only [List.getElem_toArray, List.getElem_cons_zero, List.getElem_cons_succ, Act.put, List.setIfInBounds_toArray, List.set_cons_zero, List.set_cons_succ]
                                refine wpAnyH_take (i := 56) (v := ?v96) rfl (by kernel_rfl) (by kernel_rfl) (by kernel_rfl) (fun _ _ _ h => h) (Or.inl ⟨by rfl, ?hy96⟩) hS0 ?_
                                case hy96 => (intro w' hw'; skip; go_simp; try with_reducible rfl)
                                simp only [List.getElem_toArray, List.getElem_cons_zero, List.getElem_cons_succ, Act.put, List.setIfInBounds_toArray, List.set_cons_zero, List.set_cons_succ]
                                refine wpAnyH_take (i := 57) (v := ?v97) rfl (by kernel_rfl) (by kernel_rfl) (by kernel_rfl) (fun _ _ _ h => h) (Or.inl ⟨by rfl, ?hy97⟩) hS0 ?_
                                case hy97 => (intro w' hw'; have q1 := (hw'.cell (o := oe + 10) lpe ne).trans E1; go_simp; try with_reducible rfl)
                                simp only [List.getElem_toArray, List.getElem_cons_zero, List.getElem_cons_succ, Act.put, List.setIfInBounds_toArray, List.set_cons_zero, List.set_cons_succ]
                                refine wpAnyH_take (i := 58) (v := ?v98) rfl (by kernel_rfl) (by kernel_rfl) (by kernel_rfl) (fun _ _ _ h => h) (Or.inl ⟨by rfl, ?hy98⟩) hS0 ?_
                                case hy98 => (intro w' hw'; skip; go_simp; try with_reducible rfl)
                                simp only [List.getElem_toArray, List.getElem_cons_zero, List.getElem_cons_succ, Act.put, List.setIfInBounds_toArray, List.set_cons_zero, List.set_cons_succ]
                                refine wpAnyH_take (i := 59) (v := ?v99) rfl (by kernel_rfl) (by kernel_rfl) (by kernel_rfl) (fun _ _ _ h => h) (Or.inl ⟨by rfl, ?hy99⟩) hS0 ?_
                                case hy99 => (intro w' hw'; skip; go_simp; try with_reducible rfl)
                                simp only [List.getElem_toArray, List.getElem_cons_zero, List.getElem_cons_succ, Act.put, List.setIfInBounds_toArray, List.set_cons_zero, List.set_cons_succ]
                                refine wpAnyH_take (i := 60) (v := ?v100) rfl (by kernel_rfl) (by kernel_rfl) (by kernel_rfl) (fun _ _ _ h => h) (Or.inl ⟨by rfl, ?hy100⟩) hS0 ?_
                                case hy100 => (intro w' hw'; skip; go_simp; try with_reducible rfl)
                                simp only [List.getElem_toArray, List.getElem_cons_zero, List.getElem_cons_succ, Act.put, List.setIfInBounds_toArray, List.set_cons_zero, List.set_cons_succ]
                                refine wpAnyH_take (i := 61) (v := ?v101) rfl (by kernel_rfl) (by kernel_rfl) (by kernel_rfl) (fun _ _ _ h => h) (Or.inl ⟨by rfl, ?hy101⟩) hS0 ?_
                                case hy101 => (intro w' hw'; skip; go_simp; try with_reducible rfl)
                                simp only [List.getElem_toArray, List.getElem_cons_zero, List.getElem_cons_succ, Act.put, List.setIfInBounds_toArray, List.set_cons_zero, List.set_cons_succ]
                                refine wpAnyH_take (i := 62) (v := ?v102) rfl (by kernel_rfl) (by kernel_rfl) (by kernel_rfl) (fun _ _ _ h => h) (Or.inl ⟨by rfl, ?hy102⟩) hS0 ?_
                                case hy102 => (intro w' hw'; skip; go_simp; try with_reducible rfl)
                                simp only [List.getElem_toArray, List.getElem_cons_zero, List.getElem_cons_succ, Act.put, List.setIfInBounds_toArray, List.set_cons_zero, List.set_cons_succ]
                                refine wpAnyH_take (i := 63) (v := ?v103) rfl (by kernel_rfl) (by kernel_rfl) (by kernel_rfl) (fun _ _ _ h => h) (Or.inl ⟨by rfl, ?hy103⟩) hS0 ?_
                                case hy103 => (intro w' hw'; skip; go_simp; try with_reducible rfl)
                                simp only [List.getElem_toArray, List.getElem_cons_zero, List.getElem_cons_succ, Act.put, List.setIfInBounds_toArray, List.set_cons_zero, List.set_cons_succ]
                                refine wpAnyH_take (i := 64) (v := ?v104) rfl (by kernel_rfl) (by kernel_rfl) (by kernel_rfl) (fun _ _ _ h => h) (Or.inl ⟨by rfl, ?hy104⟩) hS0 ?_
                                case hy104 => (intro w' hw'; have q1 := (hw'.cell (o := od + 4 + 1) lpd np).trans D5; go_simp; try with_reducible rfl)
                                simp only [List.getElem_toArray, List.getElem_cons_zero, List.getElem_cons_succ, Act.put, List.setIfInBounds_toArray, List.set_cons_zero, List.set_cons_succ]
                                refine wpAnyH_take (i := 65) (v := ?v105) rfl (by kernel_rfl) (by kernel_rfl) (by kernel_rfl) (fun _ _ _ h => h) (Or.inl ⟨by rfl, ?hy105⟩) hS0 ?_
                                case hy105 => (intro w' hw'; skip; go_simp; try with_reducible rfl)
                                simp only [List.getElem_toArray, List.getElem_cons_zero, List.getElem_cons_succ, Act.put, List.setIfInBounds_toArray, List.set_cons_zero, List.set_cons_succ]
                                refine wpAnyH_take (i := 66) (v := ?v106) rfl (by kernel_rfl) (by kernel_rfl) (by kernel_rfl) (fun _ _ _ h => h) (Or.inl ⟨by rfl, ?hy106⟩) hS0 ?_
                                case hy106 => (intro w' hw'; skip; go_simp; try with_reducible rfl)
                                simp only [List.getElem_toArray, List.getElem_cons_zero, List.getElem_cons_succ, Act.put, List.setIfInBounds_toArray, List.set_cons_zero, List.set_cons_succ]
                                refine wpAnyH_take (i := 67) rfl (by kernel_rfl) (by kernel_rfl) (by kernel_rfl) (fun _ _ _ h => h) (yieldsIf_load_mid (by rfl) 32 _ (by rfl) pe (oe + 1) (by rfl) [.int .i64 kx, .string tx5, .bool bx5, .slice aix nix cix, .slice afx nfx cfx, .int .i64 lnx, .int .i64 cox] _ (unhide RX) Tryz.underlying32 (by rfl) (unhide HIT)) hS0 ?_
                                simp only [List.getElem_toArray, List.getElem_cons_zero, List.getElem_cons_succ, Act.put, List.setIfInBounds_toArray, List.set_cons_zero, List.set_cons_succ]
                                refine wpAnyH_take (i := 68) rfl (by kernel_rfl) (by kernel_rfl) (by kernel_rfl) (fun _ _ _ h => h) (yieldsIf_load_mid (by rfl) 32 _ (by rfl) w2.heap.size 0 (by rfl) [.int .i64 k1, .string t1, .bool bl1, .slice ai1 ni1 ci1, .slice af1 nf1 cf1, .int .i64 ln1, .int .i64 co1] _ (unhide RA2) Tryz.underlying32 (by rfl) (unhide HIT)) hS0 ?_
                                simp only [List.getElem_toArray, List.getElem_cons_zero, List.getElem_cons_succ, Act.put, List.setIfInBounds_toArray, List.set_cons_zero, List.set_cons_succ]
                                refine rgn.one (i := 69) _ rfl (by kernel_rfl) (by rfl) ?_
                                simp only [List.getElem_toArray, List.getElem_cons_zero, List.getElem_cons_succ, Act.put, List.setIfInBounds_toArray, List.set_cons_zero, List.set_cons_succ]
                                go_wp2_with fail
                                refine ((unhide hC4) _ hS0).mono ?_
                                rintro e' vx ⟨rfl, zz1⟩
                                have hS1 : Kp B w10 vx := hS0.trans (Kp.of zz1)
                                refine ⟨hS1, ?_⟩
                                clear hS0 zz1
                                have hS0 := hS1
                                clear hS1
                                try simp only [List.getElem_toArray, List.getElem_cons_zero, List.getElem_cons_succ, Act.put, List.setIfInBounds_toArray, List.set_cons_zero, List.set_cons_succ]
                                as_aux_lemma =>
                                  refine wpAnyH_take (i := 70) (v := ?v107) rfl (by kernel_rfl) (by kernel_rfl) (by kernel_rfl) (fun _ _ _ h => h) (Or.inl ⟨by rfl, ?hy107⟩) hS0 ?_
                                  case hy107 => (intro w' hw'; skip; go_simp; try with_reducible rfl)
                                  simp only [List.getElem_toArray, List.getElem_cons_zero, List.getElem_cons_succ, Act.put, List.setIfInBounds_toArray, List.set_cons_zero, List.set_cons_succ]
                                  refine wpAnyH_take (i := 71) (v := ?v108) rfl (by kernel_rfl) (by kernel_rfl) (by kernel_rfl) (fun _ _ _ h => h) (Or.inl ⟨by rfl, ?hy108⟩) hS0 ?_
                                  case hy108 => (intro w' hw'; skip; go_simp; try with_reducible rfl)
                                  simp only [List.getElem_toArray, List.getElem_cons_zero, List.getElem_cons_succ, Act.put, List.setIfInBounds_toArray, List.set_cons_zero, List.set_cons_succ]
                                  refine wpAnyH_take (i := 72) (v := ?v109) rfl (by kernel_rfl) (by kernel_rfl) (by kernel_rfl) (fun _ _ _ h => h) (Or.inl ⟨by rfl, ?hy109⟩) hS0 ?_
                                  case hy109 => (intro w' hw'; skip; go_simp; try with_reducible rfl)
                                  simp only [List.getElem_toArray, List.getElem_cons_zero, List.getElem_cons_succ, Act.put, List.setIfInBounds_toArray, List.set_cons_zero, List.set_cons_succ]
                                  refine wpAnyH_take (i := 73) (v := ?v110) rfl (by kernel_rfl) (by kernel_rfl) (by kernel_rfl) (fun _ _ _ h => h) (Or.inl ⟨by rfl, ?hy110⟩) hS0 ?_
                                  case hy110 => (intro w' hw'; skip; go_simp; try with_reducible rfl)
                                  simp only [List.getElem_toArray, List.getElem_cons_zero, List.getElem_cons_succ, Act.put, List.setIfInBounds_toArray, List.set_cons_zero, List.set_cons_succ]
                                  refine wpAnyH_take (i := 74) (v := ?v111) rfl (by kernel_rfl) (by kernel_rfl) (by kernel_rfl) (fun _ _ _ h => h) (Or.inl ⟨by rfl, ?hy111⟩) hS0 ?_
                                  case hy111 => (intro w' hw'; skip; go_simp; try with_reducible rfl)
                                  simp only [List.getElem_toArray, List.getElem_cons_zero, List.getElem_cons_succ, Act.put, List.setIfInBounds_toArray, List.set_cons_zero, List.set_cons_succ]
                                  refine wpAnyH_take (i := 75) (v := ?v112) rfl (by kernel_rfl) (by kernel_rfl) (by kernel_rfl) (fun _ _ _ h => h) (Or.inl ⟨by rfl, ?hy112⟩) hS0 ?_
                                  case hy112 => (intro w' hw'; have q1 := (hw'.cell (o := od + 4 + 1) lpd np).trans D5; go_simp; try with_reducible rfl)
                                  simp only [List.getElem_toArray, List.getElem_cons_zero, List.getElem_cons_succ, Act.put, List.setIfInBounds_toArray, List.set_cons_zero, List.set_cons_succ]
                                  refine wpAnyH_take (i := 76) (v := ?v113) rfl (by kernel_rfl) (by kernel_rfl) (by kernel_rfl) (fun _ _ _ h => h) (Or.inl ⟨by rfl, ?hy113⟩) hS0 ?_
                                  case hy113 => (intro w' hw'; skip; go_simp; try with_reducible rfl)
                                  simp only [List.getElem_toArray, List.getElem_cons_zero, List.getElem_cons_succ, Act.put, List.setIfInBounds_toArray, List.set_cons_zero, List.set_cons_succ]
                                  refine wpAnyH_take (i := 77) (v := ?v114) rfl (by kernel_rfl) (by kernel_rfl) (by kernel_rfl) (fun _ _ _ h => h) (Or.inl ⟨by rfl, ?hy114⟩) hS0 ?_
                                  case hy114 => (intro w' hw'; skip; go_simp; try with_reducible rfl)
                                  simp only [List.getElem_toArray, List.getElem_cons_zero, List.getElem_cons_succ, Act.put, List.setIfInBounds_toArray, List.set_cons_zero, List.set_cons_succ]
                                  refine wpAnyH_take (i := 78) rfl (by kernel_rfl) (by kernel_rfl) (by kernel_rfl) (fun _ _ _ h => h) (yieldsIf_load_mid (by rfl) 32 _ (by rfl) pe (oe + 10 + 1) (by rfl) [.int .i64 ky5, .string ty5, .bool by5, .slice aiy niy ciy, .slice afy nfy cfy, .int .i64 lny, .int .i64 coy] _ (unhide RY) Tryz.underlying32 (by rfl) (unhide HIT)) hS0 ?_
                                  simp only [List.getElem_toArray, List.getElem_cons_zero, List.getElem_cons_succ, Act.put, List.setIfInBounds_toArray, List.set_cons_zero, List.set_cons_succ]
                                  refine wpAnyH_take (i := 79) rfl (by kernel_rfl) (by kernel_rfl) (by kernel_rfl) (fun _ _ _ h => h) (yieldsIf_load_mid (by rfl) 32 _ (by rfl) w3.heap.size 0 (by rfl) [.int .i64 k2', .string t2, .bool bl2, .slice ai2 ni2 ci2, .slice af2 nf2 cf2, .int .i64 ln2, .int .i64 co2] _ (unhide RC2) Tryz.underlying32 (by rfl) (unhide HIT)) hS0 ?_
                                  simp only [List.getElem_toArray, List.getElem_cons_zero, List.getElem_cons_succ, Act.put, List.setIfInBounds_toArray, List.set_cons_zero, List.set_cons_succ]
                                  refine rgn.one (i := 80) _ rfl (by kernel_rfl) (by rfl) ?_
                                  simp only [List.getElem_toArray, List.getElem_cons_zero, List.getElem_cons_succ, Act.put, List.setIfInBounds_toArray, List.set_cons_zero, List.set_cons_succ]
                                  go_wp2_with fail
                                  refine ((unhide hC5) _ hS0).mono ?_
                                  rintro e' vx ⟨rfl, zz1⟩
                                  have hS1 : Kp B w10 vx := hS0.trans (Kp.of zz1)
                                  refine ⟨hS1, ?_⟩
                                  clear hS0 zz1
                                  have hS0 := hS1
                                  clear hS1
                                  try simp only [List.getElem_toArray, List.getElem_cons_zero, List.getElem_cons_succ, Act.put, List.setIfInBounds_toArray, List.set_cons_zero, List.set_cons_succ]
                                  as_aux_lemma =>
                                    refine wpAnyH_take (i := 81) (v := ?v115) rfl (by kernel_rfl) (by kernel_rfl) (by kernel_rfl) (fun _ _ _ h => h) (Or.inl ⟨by rfl, ?hy115⟩) hS0 ?_
                                    case hy115 => (intro w' hw'; skip; go_simp; try with_reducible rfl)
                                    simp only [List.getElem_toArray, List.getElem_cons_zero, List.getElem_cons_succ, Act.put, List.setIfInBounds_toArray, List.set_cons_zero, List.set_cons_succ]
                                    refine wpAnyH_take (i := 82) (v := ?v116) rfl (by kernel_rfl) (by kernel_rfl) (by kernel_rfl) (fun _ _ _ h => h) (Or.inl ⟨by rfl, ?hy116⟩) hS0 ?_
                                    case hy116 => (intro w' hw'; skip; go_simp; try with_reducible rfl)
                                    simp only [List.getElem_toArray, List.getElem_cons_zero, List.getElem_cons_succ, Act.put, List.setIfInBounds_toArray, List.set_cons_zero, List.set_cons_succ]
                                    refine wpAnyH_done (by kernel_rfl) ?_ _; refine NoPanic.normal ?_
                                    as_aux_lemma =>
                                      have hfin := hide ((unhide HBF).1.trans (hS0.below (unhide HBF).2 (unhide HBF).1.size))
                                      clear hS0 HBF
                                      go_wp2_with fail
                                      go_ret
                                      exact ⟨rfl, unhide hfin⟩
    · have hb : (K2 != 0) = true := by simpa using hk2
      have hb' : (K2 == 0) = false := by simpa using hk2
      have HB := hide bw3
      clear e1 e2 b23 bw3 HP1 HP2 HK1 HK2 hL0 hL1
      go_wp2_with fail
      go_ret
      exact ⟨rfl, (unhide HB).trans ((two_alloc _ _ _).mono (unhide HB).size)⟩
  · have hb : (K1 != 0) = true := by simpa using hk1
    have hb' : (K1 == 0) = false := by simpa using hk1
    have HB := hide bw3
    clear e1 e2 b23 bw3 HP1 HP2 HK1 HK2 hL0 hL1
    go_wp2_with fail
    go_ret
    exact ⟨rfl, (unhide HB).trans ((two_alloc _ _ _).mono (unhide HB).size)⟩
end Go.Proofs.YtdmfbahnhkdamaaGreat.cu
