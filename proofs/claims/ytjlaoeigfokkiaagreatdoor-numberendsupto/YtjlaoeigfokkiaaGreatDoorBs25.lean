import Derived.Test.YtjlaoeigfokkiaaGreatDoorBs24
import Derived.Test.YtjlaoeigfokkiaaGreatDoorBs21
import Derived.Test.YtjlaoeigfokkiaaGreatDoorBs16
import Derived.Test.YtjlaoeigfokkiaaGreatDoorBs20
import Derived.Test.YtjlaoeigfokkiaaGreatDoorBs19
import Derived.Test.YtjlaoeigfokkiaaGreatDoorBs18
import Derived.Test.YtjlaoeigfokkiaaGreatDoorBs22
import Derived.Test.YtjlaoeigfokkiaaGreatDoorBs13
namespace Go.Proofs.YtjlaoeigfokkiaaGreatDoor.fto
open Go.ChangeShapes Go.WideShapes Go.ChangeAt Go.RowKit
open mem Go.Sort
open ints (hide unhide)
set_option linter.unusedVariables false
theorem below_bytesWorld (w : World) (t : TypeId) (n : ByteArray) : Below w.heap.size w (Lib.bytesWorld w t n) := Lib.bytesWorld_below w t n
set_option maxHeartbeats 1100000 in
set_option maxRecDepth 100000 in
/-- number.Read at a whole number's text -/
theorem readw_in (s : ByteArray) (v : Int) (w : World) (hs : s.size ≤ 1100000) (hp : pfx (bytZ s) 0 = (s.size, s.size, 1)) (hv : Lib.parseIntB 64 s.data.toList = .ok v) :
    Calls Tryz.prog 8 #[.string s] w fun e w' => e = .returned (.tuple #[.agg #[.int .i64 2, .int .i64 v, .float .f64 0], .int .i64 0]) ∧ Below w.heap.size w w' := by
  have CB := hide (conv_bytes s)
  have PR := hide (fun a n c W (h : Row .u8 W a n c (bytZ s)) (hn : n ≤ 4611686018427387900) => prefix_in_b a n c (bytZ s) 0 W h hn (Nat.zero_le _))
  rw [hp] at PR
  have HN := hide (fun W => Tryz.strconv_ParseInt_10_at64_ok s (by omega) v hv W)
  obtain ⟨cap, W2, hcv, hrow, b2⟩ := conv_bytes s (w.alloc (.cells #[.int .i64 0, .int .i64 0, .float .f64 0] 27))
  have hz : (w.alloc (.cells #[.int .i64 0, .int .i64 0, .float .f64 0] 27)).heap.size = w.heap.size + 1 := by simp
  rw [hz] at hcv hrow b2
  have hb0 : (w.alloc (.cells #[.int .i64 0, .int .i64 0, .float .f64 0] 27)).heap[w.heap.size]? = some (.cells #[.int .i64 0, .int .i64 0, .float .f64 0] 27 (0, 0)) := heap_alloc_new w _
  have hb2 : W2.heap[w.heap.size]? = some (.cells #[.int .i64 0, .int .i64 0, .float .f64 0] 27 (0, 0)) := (b2.block w.heap.size (by omega)).trans hb0
  have bw2 : Below w.heap.size w W2 := ((Below.refl _ _).alloc (Nat.le_refl _) _).trans (b2.mono (by omega))
  have hz2 : w.heap.size + 1 ≤ W2.heap.size := by have := b2.size; rw [hz] at this; exact this
  have P1 := hide (unhide PR _ _ _ W2 hrow (by omega))
  have HX := hide (And.intro hb2 (And.intro bw2 hz2))
  have e0 : ((s.size : Int) != (s.size : Int)) = false := by simp
  clear hv hp CB PR b2 hb0 hb2 bw2 hz2 hrow
  go_enter Tryz.func8, Tryz.ntmps8
  go_wp2_with fail
  refine (unhide P1).mono ?_
  rintro e w1 ⟨rfl, b1⟩
  obtain ⟨x1, x2, x3⟩ := unhide HX
  have bw1 := x2.trans (b1.mono x2.size)
  have hb1 : w1.heap[w.heap.size]? = some (.cells #[.int .i64 0, .int .i64 0, .float .f64 0] 27 (0, 0)) := (b1.block w.heap.size (by omega)).trans x1
  have hz1 : w.heap.size < w1.heap.size := by have := b1.size; omega
  have N1 := hide (unhide HN w1)
  have HY := hide (And.intro hb1 (And.intro bw1 hz1))
  clear b1 x1 x2 x3 bw1 hb1 hz1 HX P1 HN hcv
  go_wp2_with fail
  refine (unhide N1).mono ?_
  rintro e w2 ⟨rfl, b2'⟩
  have b2 : Below w1.heap.size w1 w2 := by
    rcases b2' with rfl | ⟨t, rfl⟩
    · exact Below.refl _ _
    · exact below_bytesWorld _ _ _
  clear b2'
  obtain ⟨x1, x2, x3⟩ := unhide HY
  have bw2 := x2.trans (b2.mono x2.size)
  have hb2 : w2.heap[w.heap.size]? = some (.cells #[.int .i64 0, .int .i64 0, .float .f64 0] 27 (0, 0)) := (b2.block w.heap.size x3).trans x1
  have hth := hide (thr_cells hb2 (o := 0) (n := 3) (by decide))
  have HB := hide bw2
  clear b2 x1 x2 x3 bw2 hb2 HY N1
  go_wp2_with (first
    | refine wpList_store_mid (by rfl) 27 _ _ (by rfl) w.heap.size 0 #[.int .i64 2, .int .i64 v, .float .f64 0] (by rfl) (by rfl) (unhide hth) infoNum (one_c (cs := [.int .i64 2, .int .i64 v, .float .f64 0]) (by rfl)) ?_)
  refine bodyPost_ret (rgn.result_row_tmp rfl _ _ w.heap.size 0 [.int .i64 2, .int .i64 v, .float .f64 0] _ rfl (World.rangeAt_setCells_same _ _ _ _ (unhide hth)) Tryz.underlying27 rfl infoNum) rfl ?_
  exact ⟨rfl, bel_setCells _ _ _ _ (unhide HB) (Nat.le_refl _)⟩
theorem pum_ok : ∀ (l : List Int) (acc : Nat), Dg l → acc * 10 ^ l.length + dv l ≤ 9223372036854775808 → Lib.parseUintM (2 ^ 64 - 1) acc (u8s l) = .ok (acc * 10 ^ l.length + dv l) := by
  intro l
  induction l with
  | nil => intro acc _ _; simp [u8s, Lib.parseUintM, dv]
  | cons c r ih =>
    intro acc hD hle
    have hc := hD c (by simp)
    have e2 : (UInt8.ofNat c.toNat).toNat = c.toNat := UInt8.toNat_ofNat_of_lt' (by show _ < 256; omega)
    rw [dv_cons, List.length_cons, Nat.pow_succ (n := 10)] at hle ⊢
    have hp : 1 ≤ 10 ^ r.length := Nat.pow_pos (by decide)
    have key : acc * (10 ^ r.length * 10) + ((c - 48).toNat * 10 ^ r.length + dv r) = (acc * 10 + (c - 48).toNat) * 10 ^ r.length + dv r := by
      rw [Nat.add_mul, Nat.mul_comm (10 ^ r.length) 10, ← Nat.mul_assoc]
      omega
    rw [key] at hle ⊢
    have h1 : (acc * 10 + (c - 48).toNat) * 1 ≤ (acc * 10 + (c - 48).toNat) * 10 ^ r.length := Nat.mul_le_mul_left _ hp
    have h2 : (UInt8.ofNat c.toNat).toNat - 48 = (c - 48).toNat := by rw [e2]; omega
    show Lib.parseUintM (2 ^ 64 - 1) acc (UInt8.ofNat c.toNat :: u8s r) = _
    unfold Lib.parseUintM
    rw [if_pos (by rw [e2]; omega), if_neg (by omega), h2, if_neg (by omega)]
    exact ih _ hD.tail hle
theorem pib_itZ (x : Int) (h0 : -9223372036854775808 ≤ x) (h1 : x ≤ 9223372036854775807) : Lib.parseIntB 64 (u8s (itZ x)) = .ok x := by
  have hm := pum_ok (dz x.natAbs) 0 (dz_dg _) (by rw [dz_val]; omega)
  rw [dz_val, Nat.zero_mul, Nat.zero_add] at hm
  have hpu : Lib.parseUintB 64 (u8s (dz x.natAbs)) = .ok x.natAbs := by
    unfold Lib.parseUintB
    rw [if_neg, hm]
    intro e
    exact dz_ne x.natAbs (by simpa [u8s] using e)
  unfold itZ
  by_cases hx : x < 0
  · rw [decide_eq_true hx]
    show Lib.parseIntB 64 (45 :: u8s (dz x.natAbs)) = _
    unfold Lib.parseIntB
    simp only [show (45 : UInt8).toNat = 45 from rfl, or_true, if_true]
    rw [hpu]
    simp only [not_true_eq_false, false_and, if_false, true_and]
    rw [if_neg (by omega)]
    congr 1
    omega
  · rw [decide_eq_false hx]
    show Lib.parseIntB 64 (u8s (dz x.natAbs)) = _
    cases hz : dz x.natAbs with
    | nil => exact absurd hz (dz_ne _)
    | cons c r =>
      have hc := dz_dg x.natAbs c (by rw [hz]; simp)
      have e2 : (UInt8.ofNat c.toNat).toNat = c.toNat := UInt8.toNat_ofNat_of_lt' (by show _ < 256; omega)
      rw [hz] at hpu
      have hpu' : Lib.parseUintB 64 (UInt8.ofNat c.toNat :: u8s r) = .ok x.natAbs := hpu
      show Lib.parseIntB 64 (UInt8.ofNat c.toNat :: u8s r) = _
      unfold Lib.parseIntB
      simp only [e2]
      rw [if_neg (by omega), hpu']
      have n45 : ¬ c.toNat = 45 := by omega
      simp only [n45, not_false_eq_true, true_and, if_false, false_and]
      rw [if_neg (by omega)]
      congr 1
      omega
/-- number.Read at what number.WholeText writes -/
theorem read_whole (x : Int) (h0 : -9223372036854775808 ≤ x) (h1 : x ≤ 9223372036854775807) (w : World) :
    Calls Tryz.prog 8 #[.string (itB x)] w fun e w' => e = .returned (.tuple #[.agg #[.int .i64 2, .int .i64 x, .float .f64 0], .int .i64 0]) ∧ Below w.heap.size w w' := by
  have hsz := itB_size x h0 h1
  rw [itB_itZ] at hsz ⊢
  refine readw_in _ x w (by omega) ?_ (pib_itZ x h0 h1)
  rw [bytZ_str _ (itZ_bt x), str_size]
  have := pfx_text (decide (x < 0)) (dz x.natAbs) [] none (dz_dg _) (dz_ne _) (fun r h => (dz_first _ r h).2) Dg.nil trivial
  simp only [frL, exL, if_true, List.append_nil] at this
  exact this
end Go.Proofs.YtjlaoeigfokkiaaGreatDoor.fto
namespace Go.Proofs.YtjlaoeigfokkiaaGreatDoor.fto
open Go.ChangeShapes Go.WideShapes Go.ChangeAt Go.RowKit
open mem Go.Sort
open ints (hide unhide)
set_option linter.unusedVariables false
set_option linter.unusedSimpArgs false
/-- the sign of an exponent: none, plus, minus -/
def sg3 : Option Bool → List Int
  | none => []
  | some false => [43]
  | some true => [45]
theorem sg3_len (o : Option Bool) : (sg3 o).length ≤ 1 := by rcases o with _ | _ | _ <;> simp [sg3]
theorem sg3_bt (o : Option Bool) : Bt (sg3 o) := by rcases o with _ | _ | _ <;> simp [sg3, Bt]
theorem sg3_asc (o : Option Bool) (z : Int) (h : z ∈ sg3 o) : 0 ≤ z ∧ z < 128 := by rcases o with _ | _ | _ <;> simp [sg3] at h <;> omega
theorem ia_at2 (c : UInt8) (hc : c = 101 ∨ c = 69) (r : List UInt8) : ∀ l : List UInt8, (101 : UInt8) ∉ l → (69 : UInt8) ∉ l → Lib.indexAny (l ++ c :: r) [101, 69] = l.length
  | [], _, _ => by rcases hc with rfl | rfl <;> simp [Lib.indexAny]
  | b :: l, h1, h2 => by
    have b1 : ¬ (101 : UInt8) = b := fun e => h1 (by simp [e])
    have b2 : ¬ (69 : UInt8) = b := fun e => h2 (by simp [e])
    have ih := ia_at2 c hc r l (fun e => h1 (List.mem_cons_of_mem _ e)) (fun e => h2 (List.mem_cons_of_mem _ e))
    rw [List.cons_append]
    unfold Lib.indexAny
    rw [if_neg, ih]
    · rw [if_neg]
      · simp
      · simp
    · simp
      exact ⟨fun e => b1 e.symm, fun e => b2 e.symm⟩
theorem trimS_sg3 (o : Option Bool) (X : List Int) (hX : Dg X) : Lib.trimLeftS (u8s (sg3 o ++ X)) [43, 45] = u8s X := by
  rcases o with _ | _ | _
  · exact trimS_sg false X hX
  · have h := trimS_sg false X hX
    unfold Lib.trimLeftS at h ⊢
    rw [u8s_app]
    show List.dropWhile _ ((43 : UInt8) :: u8s X) = _
    rw [List.dropWhile_cons, if_pos (by decide)]
    exact h
  · exact trimS_sg true X hX
set_option maxHeartbeats 1100000 in
set_option maxRecDepth 100000 in
/-- cutExponent at a text with an exponent -/
theorem cutE_any (M X : List Int) (ec : Int) (o : Option Bool) (w : World) (hec : ec = 101 ∨ ec = 69) (hM : NoE M) (ha : ∀ z ∈ M, 0 ≤ z ∧ z < 128) (hl : M.length ≤ 1100000) (hX : Dg X) (hX0 : X ≠ []) (hXl : X.length ≤ 1100000) :
    Calls Tryz.prog 40 #[.string (strOfNums (M ++ ec :: (sg3 o ++ X)))] w fun e w' => e = .returned (.tuple #[.string (strOfNums M), .int .i64 (if o = some true then -((min (dv X) 1099511627776 : Nat) : Int) else ((min (dv X) 1099511627776 : Nat) : Int))]) ∧ Below w.heap.size w w' := by
  obtain ⟨s, hs⟩ : ∃ s, s = strOfNums (M ++ ec :: (sg3 o ++ X)) := ⟨_, rfl⟩
  rw [← hs]
  obtain ⟨tx, htx⟩ : ∃ s, s = strOfNums (sg3 o ++ X) := ⟨_, rfl⟩
  obtain ⟨xs, hxs⟩ : ∃ s, s = strOfNums X := ⟨_, rfl⟩
  have hsz : s.size = M.length + 1 + (sg3 o ++ X).length := by rw [hs, str_size]; simp; omega
  have hgl : (sg3 o).length ≤ 1 := sg3_len o
  have hXp : 0 < X.length := List.length_pos_iff.2 hX0
  have hasc : ∀ z ∈ M ++ ec :: (sg3 o ++ X), 0 ≤ z ∧ z < 128 := fun z hz => by
    rcases List.mem_append.1 hz with h | h
    · exact ha z h
    · rcases List.mem_cons.1 h with h | h
      · omega
      · rcases List.mem_append.1 h with h | h
        · have := sg3_asc o z h; omega
        · have := hX z h; omega
  have hasc2 : ∀ (j : Nat) b, s.data.toList[j]? = some b → b.toNat < 128 := by
    intro j b hb
    rw [hs] at hb
    exact ascii_u8s hasc j b hb
  have IA := Tryz.strings_IndexAny_laid s ⟨#[101, 69]⟩ w (by rw [hsz, List.length_append]; omega) (by decide) hasc2 (ascii_of_all (by decide))
  clear hasc hasc2
  have e : Lib.indexAny s.data.toList (⟨#[101, 69]⟩ : ByteArray).data.toList = M.length := by
    have := ia_at2 (UInt8.ofNat ec.toNat) (by rcases hec with rfl | rfl; exact Or.inl rfl; exact Or.inr rfl) (u8s (sg3 o ++ X)) (u8s M) hM.u8.1 hM.u8.2
    rw [show (u8s M).length = M.length by simp [u8s]] at this
    rw [← this, hs]
    show Lib.indexAny (u8s (M ++ ec :: (sg3 o ++ X))) _ = _
    rw [u8s_app]
    rfl
  rw [e] at IA
  have TL := fun W => Tryz.strings_TrimLeft_laid tx ⟨#[43, 45]⟩ W (by decide) (ascii_of_all (by decide))
  have e2 : (⟨(Lib.trimLeftS tx.data.toList (⟨#[43, 45]⟩ : ByteArray).data.toList).toArray⟩ : ByteArray) = xs := by
    rw [htx, hxs]
    show (⟨(Lib.trimLeftS (u8s (sg3 o ++ X)) [43, 45]).toArray⟩ : ByteArray) = _
    rw [trimS_sg3 o X hX]
    rfl
  simp only [e2] at TL
  have HI := hide IA
  have HT := hide TL
  clear IA TL e e2
  obtain ⟨mk, hmk⟩ : ∃ mk : Nat, mk = M.length := ⟨_, rfl⟩
  rw [← hmk] at HI hsz hl
  have m1 : ¬ (mk : Int) < 0 := by omega
  have hxx : s.extract (mk + 1) s.size = tx := by
    rw [hs, htx, hmk, show M ++ ec :: (sg3 o ++ X) = (M ++ [ec]) ++ (sg3 o ++ X) by simp, str_size]
    exact ext_right (M ++ [ec]) (sg3 o ++ X) (by simp) (by simp)
  have hmm : s.extract 0 mk = strOfNums M := by
    rw [hs, hmk]
    exact ext_left M _
  have htz : tx.size = (sg3 o ++ X).length := by rw [htx, str_size]
  have htp : 0 < tx.size := by rw [htz, List.length_append]; omega
  have ht0 : bz tx 0 = (sg3 o).getD 0 (X.getD 0 0) := by
    rw [htx, bz_str _ ((sg3_bt o).app hX.bt)]
    rcases o with _ | _ | _ <;> simp [sg3]
  obtain ⟨ms, hms⟩ : ∃ ms, ms = strOfNums M := ⟨_, rfl⟩
  rw [← hms] at hmm ⊢
  have hzi : (s.size : Int) = (mk : Int) + 1 + tx.size := by rw [htz]; omega
  have hsl : mk + 1 ≤ s.size := by omega
  have hxz : xs.size = X.length := by rw [hxs, str_size]
  have hxa : ∀ j (hj : j < xs.size), ((xs[j]'hj).toNat : Int) = X.getD j 0 := fun j hj => by
    rw [← bz_at]
    subst hxs
    exact bz_str X hX.bt j
  rw [bz_at tx 0 htp] at ht0
  clear hs htx hxs hmk hms hsz
  have HX := hide hxa
  have HD := hide hX
  clear hxa hX ha hM
  go_enter Tryz.func40, Tryz.ntmps40
  go_wp2_with fail
  refine (unhide HI).mono ?_
  rintro e w1 ⟨rfl, b1⟩
  have HB := hide b1
  clear b1 HI
  go_wp2_with fail
  refine (unhide HT _).mono ?_
  rintro e w2 ⟨rfl, b2⟩
  have HB2 := hide ((unhide HB).trans (b2.mono (unhide HB).size))
  clear b2 HB HT
  go_wp2
  go_loopw [6, 8] (fun n _ wr => ∃ pos : Nat, pos ≤ X.length ∧ wr = w2.iter xs pos ∧ n = .int .i64 ((min (dv (X.take pos)) 1099511627776 : Nat) : Int)) (fun _ _ wr => X.length - wr.iterPos w2.heap.size)
  case atStart => exact ⟨0, by omega, rfl, rfl⟩
  case round =>
    obtain ⟨pos, hpl, rfl, rfl⟩ := hrel
    by_cases hp : pos < X.length
    · have hp' : pos < xs.size := by omega
      have hx1 := unhide HX pos hp'
      have hx2 := dg_getD (unhide HD) hp
      have hx3 := dv_lt (X.take pos) (fun z hz => unhide HD z (List.mem_of_mem_take hz))
      have hx4 : dv (X.take (pos + 1)) = dv (X.take pos) * 10 + (X.getD pos 0 - 48).toNat := by
        have et : X.take (pos + 1) = X.take pos ++ [X.getD pos 0] := by
          rw [List.getD_eq_getElem?_getD, List.getElem?_eq_getElem hp, Option.getD_some, List.take_succ_eq_append_getElem hp]
        rw [et, dv_app, dv_cons]
        simp [dv]
      have hnx : ∀ ty, (Instr.next (.pointer (some ⟨w2.heap.size, 0, none⟩)) true ty).run Tryz.prog (w2.iter xs pos) = .ok (.tuple #[.bool true, .int .i64 pos, .int .i32 (X.getD pos 0)]) (w2.iter xs (pos + 1)) := fun ty => by
        have := run_next_ascii (P := Tryz.prog) w2 xs pos ty hp' (by omega)
        rw [hx1] at this
        exact this
      have HQ := hide hx4
      clear hx1 hx3 hx4
      generalize X.getD pos 0 = c at *
      generalize dv (X.take pos) = v0 at *
      obtain ⟨v, hv⟩ : ∃ v, v = min v0 1099511627776 := ⟨_, rfl⟩
      obtain ⟨v2, hv2⟩ : ∃ v2, v2 = min (dv (X.take (pos + 1))) 1099511627776 := ⟨_, rfl⟩
      have hvb : v ≤ 1099511627776 := by omega
      rw [← hv]
      have hmn : min ((v : Int) * 10 + (c - 48)) 1099511627776 = (v2 : Int) := by rw [hv2, unhide HQ]; omega
      have HV2 := hide hv2
      clear hv hv2 HQ
      go_wp2
      go_roundw
      case rel => exact ⟨pos + 1, by omega, rfl, by rw [← unhide HV2]⟩
      case measure => simp; omega
    · have e : pos = X.length := by omega
      subst e
      rw [List.take_length]
      have hnx : ∀ ty, (Instr.next (.pointer (some ⟨w2.heap.size, 0, none⟩)) true ty).run Tryz.prog (w2.iter xs X.length) = .ok (.tuple #[.bool false]) (w2.iter xs X.length) := fun ty => run_next_end (P := Tryz.prog) w2 xs X.length ty (by omega)
      obtain ⟨v, hv⟩ : ∃ v, v = min (dv X) 1099511627776 := ⟨_, rfl⟩
      have hvb : v ≤ 1099511627776 := by omega
      rw [← hv]
      have HV := hide hv
      clear hv
      rcases o with _ | _ | _
      · have h0 : 48 ≤ ((tx[0]'htp).toNat : Int) := by rw [ht0]; exact (dg_getD (unhide HD) hXp).1
        have h1 : (((tx[0]'htp).toNat : Int) == 45) = false := by rw [beq_eq_false_iff_ne]; omega
        clear ht0
        go_wp2
        go_ret2
        refine ⟨?_, (unhide HB2).alloc (unhide HB2).size _⟩
        rw [← unhide HV]
        rfl
      · have h1 : (((tx[0]'htp).toNat : Int) == 45) = false := by rw [ht0]; rfl
        clear ht0
        go_wp2
        go_ret2
        refine ⟨?_, (unhide HB2).alloc (unhide HB2).size _⟩
        rw [← unhide HV]
        rfl
      · have h1 : (((tx[0]'htp).toNat : Int) == 45) = true := by rw [ht0]; rfl
        clear ht0
        go_wp2
        go_ret2
        refine ⟨?_, (unhide HB2).alloc (unhide HB2).size _⟩
        rw [← unhide HV]
        rfl
end Go.Proofs.YtjlaoeigfokkiaaGreatDoor.fto
namespace Go.Proofs.YtjlaoeigfokkiaaGreatDoor.dcm
open Go.ChangeShapes Go.WideShapes Go.ChangeAt Go.RowKit
open mem fto
open ints (hide unhide)
set_option linter.unusedVariables false
set_option linter.unusedSimpArgs false
theorem LC.mono {w : World} {c c' : Nat} (h : LC w c) (h1 : c ≤ c') (h2 : c' ≤ w.heap.size) : LC w c' := by
  obtain ⟨tb, o, cap, a1, a2, a3, a4, a5⟩ := h
  exact ⟨tb, o, cap, a1, by omega, by omega, h2, a5⟩
theorem PW.mono {w : World} {c c' : Nat} (h : PW w c) (h1 : c ≤ c') : PW w c' := by
  obtain ⟨tb, o, cap, a1, a2, a3, a4⟩ := h
  exact ⟨tb, o, cap, a1, by omega, by omega, a4⟩
theorem FI.mono {w : World} {c c' : Nat} (h : FI w c) (h1 : c ≤ c') : FI w c' := ⟨Nat.lt_of_lt_of_le h.1 h1, h.2⟩
/-- the new decimal -/
def zdc : Dcs := ⟨fun _ => 0, 0, 0, false, false⟩
theorem zero_is : Tryz.zeroCells181 = (Array.replicate 800 (Value.int .u8 0) ++ #[.int .i64 0, .int .i64 0, .bool false, .bool false] : Array Value) := by kernel_rfl
theorem zero_dec (w : World) : Dec (w.alloc (Obj.cells Tryz.zeroCells181 181)) w.heap.size zdc := by
  refine ⟨Tryz.zeroCells181, 181, ⟨by show (w.heap.push _)[w.heap.size]? = _; rw [Array.getElem?_push_size], ?_, ?_, ?_, ?_, ?_, ?_⟩⟩
  · rw [zero_is]; simp
  · intro i hi
    rw [zero_is, Array.getElem?_append_left (by simpa using hi)]
    simp [hi, zdc]
  all_goals rw [zero_is]; simp [zdc]
/-- what of the world the slow way asks -/
structure Slow (w : World) (c : Nat) : Prop where
  lc : LC w c
  pw : PW w c
  fi : FI w c
theorem Slow.at {w W : World} {c : Nat} (h : Slow w c) (hb : Below c w W) (hs : w.heap.size ≤ W.heap.size) {c' : Nat} (h1 : c ≤ c') (h2 : c' ≤ W.heap.size) : Slow W c' :=
  ⟨(h.lc.below hb hs).mono h1 h2, (h.pw.below hb).mono h1, (h.fi.below hb).mono h1⟩
/-- strconv's ErrRange, as it is handed on -/
def errR : Value := .iface 96 (.int .i64 1)
set_option maxHeartbeats 2000000 in
set_option maxRecDepth 100000 in
/-- atof64 at a text whose digits do not fit a word, given what its parts answer there -/
theorem atof_same (s : ByteArray) (d S F0 F1 : Nat) (p : Int) (ng : Bool) (w : World) (hS : S = if ng then 9223372036854775808 else 0) (hd0 : 1 ≤ d) (hd : d + 1 < 18446744073709551616) (hp : -345 ≤ p ∧ p ≤ 310) (hn : s.size ≤ 2000000)
    (opt : w.cell? ⟨5, 0, none⟩ = some (.bool true))
    (hEq : (FloatKind.f64.format.order F0 F1 == some Ordering.eq) = true)
    (SP : Calls Tryz.prog 146 #[.string s] w fun e w' => e = .returned (.tuple #[.float .f64 0, .int .i64 0, .bool false]) ∧ w' = w)
    (RF : Calls Tryz.prog 147 #[.string s] w fun e w' => e = .returned (.tuple #[.int .u64 d, .int .i64 p, .bool ng, .bool true, .bool false, .int .i64 s.size, .bool true]) ∧ w' = w)
    (e0 e1 : Value)
    (PA : Calls Tryz.prog 158 #[.int .u64 d, .int .i64 p, .int .u64 S] w fun e w' => e = .returned (.tuple #[.float .f64 F0, e0]) ∧ Below w.heap.size w w')
    (PB : ∀ W, Below w.heap.size w W → Calls Tryz.prog 158 #[.int .u64 ((d + 1 : Nat) : Int), .int .i64 p, .int .u64 S] W fun e w' => e = .returned (.tuple #[.float .f64 F1, e1]) ∧ Below w.heap.size W w')
    : Calls Tryz.prog 126 #[.string s] w fun e w' => e = .returned (.tuple #[.float .f64 F0, .int .i64 s.size, e0]) ∧ Below w.heap.size w w' := by
  have HSP := hide SP
  have HRF := hide RF
  have HPA := hide PA
  have HPB := hide PB
  have hdi : ((d : Int) == 0) = false := by rw [beq_eq_false_iff_ne]; omega
  have kd1 : IntKind.u64.wrap ((d : Int) + 1) = ((d + 1 : Nat) : Int) := by rw [IntKind.wrap_u64]; omega
  have B1 := hide b2_yes
  have B0 := hide b2_no
  have hfb := run_fromb
  clear SP RF PA PB hd
  go_enter Tryz.func126, Tryz.ntmps126
  go_wp2_with fail
  refine (unhide HSP).mono ?_
  rintro e w1 ⟨rfl, hw⟩
  subst w1
  go_wp2_with fail
  refine (unhide HRF).mono ?_
  rintro e w1 ⟨rfl, hw⟩
  subst w1
  cases ng
  all_goals
    simp only [Bool.false_eq_true, if_false, if_true] at hS
    subst hS
    go_wp2_with fail
    first
      | refine (unhide B0 _).mono ?_
      | refine (unhide B1 _).mono ?_
    rintro e w1 ⟨rfl, hw⟩
    subst w1
    go_wp2_with fail
    refine (unhide HPA).mono ?_
    rintro e w1 ⟨rfl, b1⟩
    have HB1 := hide b1
    clear b1
    go_wp2_with fail
    refine (unhide HPB _ (unhide HB1)).mono ?_
    rintro e w2 ⟨rfl, b2⟩
    have HB2 := hide ((unhide HB1).trans b2)
    clear b2
    go_wp2
    go_ret3
    exact ⟨rfl, unhide HB2⟩
set_option maxHeartbeats 2000000 in
set_option maxRecDepth 100000 in
/-- atof64 at a text whose digits do not fit a word, given what its parts answer there -/
theorem atof_slow (s : ByteArray) (d S F0 F1 X Y : Nat) (p : Int) (ng : Bool) (w : World) (hS : S = if ng then 9223372036854775808 else 0) (hd0 : 1 ≤ d) (hd : d + 1 < 18446744073709551616) (hp : -345 ≤ p ∧ p ≤ 310) (hn : s.size ≤ 2000000)
    (opt : w.cell? ⟨5, 0, none⟩ = some (.bool true))
    (hEq : (FloatKind.f64.format.order F0 F1 == some Ordering.eq) = false)
    (SP : Calls Tryz.prog 146 #[.string s] w fun e w' => e = .returned (.tuple #[.float .f64 0, .int .i64 0, .bool false]) ∧ w' = w)
    (RF : Calls Tryz.prog 147 #[.string s] w fun e w' => e = .returned (.tuple #[.int .u64 d, .int .i64 p, .bool ng, .bool true, .bool false, .int .i64 s.size, .bool true]) ∧ w' = w)
    (e0 e1 : Value)
    (PA : Calls Tryz.prog 158 #[.int .u64 d, .int .i64 p, .int .u64 S] w fun e w' => e = .returned (.tuple #[.float .f64 F0, e0]) ∧ Below w.heap.size w w')
    (PB : ∀ W, Below w.heap.size w W → Calls Tryz.prog 158 #[.int .u64 ((d + 1 : Nat) : Int), .int .i64 p, .int .u64 S] W fun e w' => e = .returned (.tuple #[.float .f64 F1, e1]) ∧ Below w.heap.size W w')
    (hSl : Slow w w.heap.size)
    (SET : ∀ W b, Dec W b zdc → Calls Tryz.prog 153 #[.pointer (some ⟨b, 0, none⟩), .string s] W fun e w' => e = .returned (.bool true) ∧ (∃ s', Dec w' b s' ∧ St X Y s' (800 - s'.dp).toNat ∧ -330 ≤ s'.dp ∧ s'.ng = ng) ∧ Below b W w' ∧ w'.heap.size = W.heap.size)
    (FB : ∀ W b s', Dec W b s' → St X Y s' (800 - s'.dp).toNat → -330 ≤ s'.dp → Slow W b → Calls Tryz.prog 154 #[.pointer (some ⟨b, 0, none⟩), .pointer (some ⟨9, 0, none⟩)] W fun e w' => FbA X Y s'.ng e ∧ Below b W w')
    : Calls Tryz.prog 126 #[.string s] w fun e w' => (∃ lo R, Lo (X * k74) Y lo ∧ ((roundR (X * k74) Y lo < infR ∧ R = roundR (X * k74) Y lo ∧ e = .returned (.tuple #[.float .f64 (S + R), .int .i64 s.size, .nilIface])) ∨ (infR ≤ roundR (X * k74) Y lo ∧ e = .returned (.tuple #[.float .f64 (S + infR), .int .i64 s.size, errR])))) ∧ Below w.heap.size w w' := by
  have HSP := hide SP
  have HRF := hide RF
  have HPA := hide PA
  have HPB := hide PB
  have hdi : ((d : Int) == 0) = false := by rw [beq_eq_false_iff_ne]; omega
  have kd1 : IntKind.u64.wrap ((d : Int) + 1) = ((d + 1 : Nat) : Int) := by rw [IntKind.wrap_u64]; omega
  have B1 := hide b2_yes
  have B0 := hide b2_no
  have hfb := run_fromb
  have HSET := hide SET
  have HFB := hide FB
  have HSl := hide hSl
  clear SET FB hSl
  clear SP RF PA PB hd
  go_enter Tryz.func126, Tryz.ntmps126
  go_wp2_with fail
  refine (unhide HSP).mono ?_
  rintro e w1 ⟨rfl, hw⟩
  subst w1
  go_wp2_with fail
  refine (unhide HRF).mono ?_
  rintro e w1 ⟨rfl, hw⟩
  subst w1
  cases ng
  all_goals
    simp only [Bool.false_eq_true, if_false, if_true] at hS
    subst hS
    go_wp2_with fail
    first
      | refine (unhide B0 _).mono ?_
      | refine (unhide B1 _).mono ?_
    rintro e w1 ⟨rfl, hw⟩
    subst w1
    go_wp2_with fail
    refine (unhide HPA).mono ?_
    rintro e w1 ⟨rfl, b1⟩
    have HB1 := hide b1
    clear b1
    go_wp2_with fail
    refine (unhide HPB _ (unhide HB1)).mono ?_
    rintro e w2 ⟨rfl, b2⟩
    have HB2 := hide ((unhide HB1).trans b2)
    clear b2
    go_wp2_with fail
    refine (unhide HSET _ _ (zero_dec w2)).mono ?_
    rintro e w3 ⟨rfl, ⟨s', hd3, hst, hdp, hng⟩, b3, z3⟩
    have hb13 : Below w.heap.size w w3 := ((unhide HB2).alloc (unhide HB2).size _).trans (b3.mono (unhide HB2).size)
    have hz3 : w2.heap.size ≤ w3.heap.size := by rw [z3]; simp
    have C3 := hide (unhide HFB w3 w2.heap.size s' hd3 hst hdp ((unhide HSl).at hb13 hb13.size (unhide HB2).size hz3))
    have HB3 := hide hb13
    have HZ := hide (unhide HB2).size
    rw [hng] at C3
    clear hd3 hst hdp hng b3 z3 hb13 hz3
    go_wp2_with fail
    refine (unhide C3).mono ?_
    rintro e w4 ⟨⟨lo, R, ov, hlo, rfl, hov⟩, b4⟩
    have HB4 := hide ((unhide HB3).trans (b4.mono (unhide HZ)))
    clear b4
    cases ov
    · obtain ⟨r1, r2⟩ : roundR (X * k74) Y lo < infR ∧ R = roundR (X * k74) Y lo := by
        rcases hov with ⟨q1, q2, -⟩ | ⟨-, -, q3⟩
        · exact ⟨q1, q2⟩
        · cases q3
      have HR := hide (⟨r1, r2⟩ : roundR (X * k74) Y lo < infR ∧ R = roundR (X * k74) Y lo)
      have HLo := hide hlo
      clear hov r1 r2 hlo
      go_wp2
      go_ret3
      exact ⟨⟨lo, R, unhide HLo, Or.inl ⟨(unhide HR).1, (unhide HR).2, by simp⟩⟩, unhide HB4⟩
    · obtain ⟨r1, r2⟩ : infR ≤ roundR (X * k74) Y lo ∧ R = infR := by
        rcases hov with ⟨-, -, q3⟩ | ⟨q1, q2, -⟩
        · cases q3
        · exact ⟨q1, q2⟩
      have HR := hide (⟨r1, r2⟩ : infR ≤ roundR (X * k74) Y lo ∧ R = infR)
      have HLo := hide hlo
      clear hov r1 r2 hlo
      go_wp2
      go_ret3
      refine ⟨⟨lo, R, unhide HLo, Or.inr ⟨(unhide HR).1, ?_⟩⟩, unhide HB4⟩
      rw [(unhide HR).2]
      rfl
end Go.Proofs.YtjlaoeigfokkiaaGreatDoor.dcm
namespace Go.Proofs.YtjlaoeigfokkiaaGreatDoor.fto
open Go.ChangeShapes Go.WideShapes Go.ChangeAt Go.RowKit
open mem Go.Sort
open ints (hide unhide)
set_option linter.unusedVariables false
theorem and_top {m : Nat} (h : m < 9223372036854775808) : m &&& 9223372036854775808 = 0 := by
  apply Nat.eq_of_testBit_eq
  intro i
  rw [show (9223372036854775808 : Nat) = 2 ^ 63 from rfl, Nat.testBit_and, Nat.testBit_two_pow, Nat.zero_testBit]
  by_cases e : 63 = i
  · subst e
    rw [Nat.testBit_lt_two_pow (show m < 2 ^ 63 from h), Bool.false_and]
  · rw [decide_eq_false e, Bool.and_false]
set_option maxHeartbeats 1000000 in
set_option maxRecDepth 100000 in
theorem pk_inf (S r : Nat) (x : Int) (w : World) (hS : S = 0 ∨ S = 9223372036854775808) (hr : r < 4503599627370496) (hx : 972 ≤ x) : Calls Tryz.prog 182 #[.int .u64 ((S + (4503599627370496 + r) : Nat) : Int), .int .i64 x] w fun e w' => e = .returned (.tuple #[.float .f64 (S + infR), (Value.iface 96 (.int .i64 1))]) ∧ w' = w := by
  have a := and52 S (4503599627370496 + r) hS (by omega)
  rw [if_neg (by omega)] at a
  have b : bits .and .u64 ((S + (4503599627370496 + r) : Nat) : Int) 9223372036854775808 = (S : Int) := by
    have h := u64_and_nat (S + (4503599627370496 + r)) 9223372036854775808 (by omega) (by decide)
    refine h.trans ?_
    congr 1
    rcases hS with rfl | rfl
    · rw [Nat.zero_add]
      exact and_top (by omega)
    · rw [← or_sgn 9223372036854775808 _ (Or.inr rfl) (show 4503599627370496 + r < 9223372036854775808 by omega), Nat.and_or_distrib_right]
      rw [and_top (show 4503599627370496 + r < 9223372036854775808 by omega)]
      rfl
  have c : bits .or .u64 (S : Int) 9218868437227405312 = ((S + infR : Nat) : Int) := by
    rcases hS with rfl | rfl <;> decide
  obtain ⟨V, hV⟩ : ∃ V, V = S + (4503599627370496 + r) := ⟨_, rfl⟩
  obtain ⟨V2, hV2⟩ : ∃ V, V = S + infR := ⟨_, rfl⟩
  have hi0 : infR = 9218868437227405312 := rfl
  have l1 : V < 18446744073709551616 := by omega
  have l2 : V2 < 18446744073709551616 := by omega
  rw [← hV] at a b ⊢
  rw [← hV2] at c ⊢
  have rb := run_fromb (V2 : Int) w
  rw [Int.toNat_natCast] at rb
  clear hV hV2 hi0
  go_enter Tryz.func182, Tryz.ntmps182
  go_wp2
  go_ret2
  exact ⟨rfl, rfl⟩
set_option maxHeartbeats 2000000 in
set_option maxRecDepth 100000 in
theorem parse_loI (d b c s i S U m X R : Nat) (p lp e : Int) (w : World) (hT : PT w) (hg : 15 < w.heap.size) (hd0 : 1 ≤ d) (hd : d < 18446744073709551616) (hb : Lib.bitLen d = b) (hb1 : 1 ≤ b) (hb2 : b ≤ 64) (hc : b + c = 64)
    (hp : -345 ≤ p ∧ p ≤ 310) (hlp : lp = p * 108853 / 32768) (he : min 1074 (53 - (b : Int) - lp) = e) (hi : (i : Int) = p + 348) (hs : -(e - (c : Int) + lp + 3) = (s : Int)) (hs2 : s < 64) (hX : d * 2 ^ c = X) (hX2 : X < 18446744073709551616) (kk : 1 ≤ X * rowH i / 18446744073709551616)
    (hh : rowH i < 18446744073709551616) (hl : rowL i < 18446744073709551616) (hU : U = us X (rowH i) (rowL i) s) (bU : U < 36028797018963966) (hm : m = (U + 1 + U / 4 % 2) / 4) (hm2 : m < 9007199254740992) (hS : S = 0 ∨ S = 9223372036854775808)
    (PK : ∀ w, Calls Tryz.prog 182 #[.int .u64 ((S + m : Nat) : Int), .int .i64 (-e)] w fun e w' => e = .returned (.tuple #[.float .f64 R, (Value.iface 96 (.int .i64 1))]) ∧ w' = w) :
    Calls Tryz.prog 158 #[.int .u64 d, .int .i64 p, .int .u64 S] w fun ed w' => ed = .returned (.tuple #[.float .f64 R, (Value.iface 96 (.int .i64 1))]) ∧ Below w.heap.size w w' := by
  have HPK := hide PK
  have C2 := hide (fun W => l2_ok p W (by omega))
  rw [← hlp] at C2
  have lpb : -1200 ≤ lp ∧ lp ≤ 1200 := by omega
  have T1 := hide (fun W B hc => uscale_ok X (rowH i) (rowL i) s B W hX2 hh hl hs2 kk hc)
  rw [← hU] at T1
  have N5 := hide (fun W => round_ok U W (by omega))
  rw [← hm] at N5
  have UM := hide unmin_ok
  have BI := hide b2i_no
  have nub : decide ((36028797018963966 : Int) ≤ (U : Int)) = false := decide_eq_false (by omega)
  have LN := hide (fun W => Tryz.bits_Len64 d W (by omega) (by omega))
  have x1 : IntKind.u64.wrap ((d : Int) * 2 ^ c) = (X : Int) := by
    have e1 : ((d : Int) * 2 ^ c) = (X : Int) := by rw [← hX]; simp
    rw [e1, IntKind.wrap_u64]; omega
  have hc63 : (c : Int) < 64 := by omega
  have i7 : (64 : Int) - (b : Int) = (c : Int) := by omega
  have HS := hide hs
  have HI := hide hi
  have HB0 := hide hb
  have eb : -2000 ≤ e ∧ e ≤ 1074 := by omega
  have h1a := and_one U (by omega)
  have h1b : bits .or .u64 (U : Int) ((U % 2 : Nat) : Int) = (U : Int) := by
    have h := u64_or_nat U (U % 2) (by omega) (by omega)
    refine h.trans ?_
    congr 1
    rcases Nat.mod_two_eq_zero_or_one U with h0 | h0
    · rw [h0, Nat.or_zero]
    · rw [h0]; have := mem.or_one U; omega
  have hSm : bits .or .u64 (S : Int) (m : Int) = ((S + m : Nat) : Int) := by
    refine (u64_or_nat S m (by omega) (by omega)).trans ?_
    rw [or_sgn S m hS (by omega)]
  obtain ⟨V, hV⟩ : ∃ V, V = S + m := ⟨_, rfl⟩
  rw [← hV] at hSm HPK
  obtain ⟨U2, hU2⟩ : ∃ U2, U2 = U % 2 := ⟨_, rfl⟩
  rw [← hU2] at h1a h1b
  have hSb : S < 18446744073709551616 := by omega
  have hVb : V < 18446744073709551616 := by omega
  have hub : (U : Int) < 36028797018963966 := by omega
  have hi2 : i < 696 := by omega
  have HE := hide he
  clear PK hU hm hX hs hi hb hlp hS hV hU2 kk hh hl he hc
  go_enter Tryz.func158, Tryz.ntmps158
  go_wp2_with fail
  refine (unhide LN _).mono ?_
  rintro ed w1' ⟨rfl, hw⟩
  subst w1'
  rw [Int.toNat_natCast, unhide HB0]
  clear LN
  go_wp2_with fail
  refine (unhide C2 _).mono ?_
  rintro ed w1' ⟨rfl, hw⟩
  subst w1'
  clear C2
  have he := unhide HE
  go_wp2_with fail
  have HB := hide (heap_alloc_new w (.cells #[.int .u64 0, .int .u64 0, .int .i64 0] 213))
  have b0 := (Below.refl w.heap.size w).alloc (Nat.le_refl _) (.cells #[.int .u64 0, .int .u64 0, .int .i64 0] 213)
  have HT : PT _ := fun j hj => ⟨(b0.cell (p := ⟨15, 2 * j, none⟩) hg).trans (hT j hj).1, (b0.cell (p := ⟨15, 2 * j + 1, none⟩) hg).trans (hT j hj).2⟩
  have hne : w.heap.size ≠ 15 := by omega
  refine (prescale_ok w.heap.size _ _ _ _ (e - (c : Int)) p lp i s _ (unhide HB) HT hne (unhide HI) hi2 (unhide HS) (by omega) (by omega)).mono ?_
  rintro ed w3 ⟨rfl, hB3, b3⟩
  have S3 := Sca.of_heap hB3
  have s2 := S3.sh
  have b3' := b0.trans b3
  clear HB HT hB3 b0 b3 hT he
  have hsz3 : w.heap.size ≤ w3.heap.size := b3'.size
  have is2 : (s : Int) < 64 := by omega
  have HBD := hide (⟨bU, hub, hm2, hSb, hVb⟩ : U < 36028797018963966 ∧ (U : Int) < 36028797018963966 ∧ m < 9007199254740992 ∧ S < 18446744073709551616 ∧ V < 18446744073709551616)
  clear bU hub hm2 hX2 hd hSb hVb
  go_wp2_with fail
  refine (unhide T1 _ _ S3).mono ?_
  rintro ed w4 ⟨rfl, b4⟩
  have b4' := hide (b3'.trans (b4.mono hsz3))
  clear T1 S3 b4 b3' hsz3 s2
  obtain ⟨bU, hub, hm2, hSb, hVb⟩ := unhide HBD
  go_wp2_with fail
  refine (unhide UM _).mono ?_
  rintro ed w5 ⟨rfl, hw⟩
  subst w5
  go_wp2_with fail
  refine (unhide BI _).mono ?_
  rintro ed w5 ⟨rfl, hw⟩
  subst w5
  go_wp2_with fail
  refine (unhide N5 _).mono ?_
  rintro ed w5 ⟨rfl, hw⟩
  subst w5
  go_wp2_with fail
  refine (unhide HPK _).mono ?_
  rintro ed w5 ⟨rfl, hw⟩
  subst w5
  go_wp2
  go_ret2
  exact ⟨rfl, unhide b4'⟩
set_option maxHeartbeats 2000000 in
set_option maxRecDepth 100000 in
theorem parse_hiI (d b c s i S U m X R : Nat) (p lp e : Int) (w : World) (hT : PT w) (hg : 15 < w.heap.size) (hd0 : 1 ≤ d) (hd : d < 18446744073709551616) (hb : Lib.bitLen d = b) (hb1 : 1 ≤ b) (hb2 : b ≤ 64) (hc : b + c = 64)
    (hp : -345 ≤ p ∧ p ≤ 310) (hlp : lp = p * 108853 / 32768) (he : min 1074 (53 - (b : Int) - lp) = e) (hi : (i : Int) = p + 348) (hs : -(e - (c : Int) + lp + 3) = (s : Int)) (hs2 : s < 64) (hX : d * 2 ^ c = X) (hX2 : X < 18446744073709551616) (kk : 1 ≤ X * rowH i / 18446744073709551616)
    (hh : rowH i < 18446744073709551616) (hl : rowL i < 18446744073709551616) (hU : U = us X (rowH i) (rowL i) s) (bU : 36028797018963966 ≤ U) (bU2 : U < 9223372036854775808) (hm : m = (((U / 2) ||| (U % 2)) + 1 + ((U / 2) ||| (U % 2)) / 4 % 2) / 4) (hm2 : m < 9007199254740992) (hS : S = 0 ∨ S = 9223372036854775808)
    (PK : ∀ w, Calls Tryz.prog 182 #[.int .u64 ((S + m : Nat) : Int), .int .i64 (-(e - 1))] w fun e w' => e = .returned (.tuple #[.float .f64 R, (Value.iface 96 (.int .i64 1))]) ∧ w' = w) :
    Calls Tryz.prog 158 #[.int .u64 d, .int .i64 p, .int .u64 S] w fun ed w' => ed = .returned (.tuple #[.float .f64 R, (Value.iface 96 (.int .i64 1))]) ∧ Below w.heap.size w w' := by
  have HPK := hide PK
  have C2 := hide (fun W => l2_ok p W (by omega))
  rw [← hlp] at C2
  have lpb : -1200 ≤ lp ∧ lp ≤ 1200 := by omega
  have T1 := hide (fun W B hc => uscale_ok X (rowH i) (rowL i) s B W hX2 hh hl hs2 kk hc)
  rw [← hU] at T1
  have hV3 : (U / 2) ||| (U % 2) < 9223372036854775808 := Nat.or_lt_two_pow (n := 63) (by omega) (by omega)
  have N5 := hide (fun W => round_ok ((U / 2) ||| (U % 2)) W (by omega))
  rw [← hm] at N5
  have UM := hide unmin_ok
  have BI := hide b2i_yes
  have nub : decide ((36028797018963966 : Int) ≤ (U : Int)) = true := decide_eq_true (by omega)
  have LN := hide (fun W => Tryz.bits_Len64 d W (by omega) (by omega))
  have x1 : IntKind.u64.wrap ((d : Int) * 2 ^ c) = (X : Int) := by
    have e1 : ((d : Int) * 2 ^ c) = (X : Int) := by rw [← hX]; simp
    rw [e1, IntKind.wrap_u64]; omega
  have hc63 : (c : Int) < 64 := by omega
  have i7 : (64 : Int) - (b : Int) = (c : Int) := by omega
  have HS := hide hs
  have HI := hide hi
  have HB0 := hide hb
  have eb : -2000 ≤ e ∧ e ≤ 1074 := by omega
  have h1a := and_one U (by omega)
  have h1b : bits .or .u64 ((U : Int) / 2) ((U % 2 : Nat) : Int) = (((U / 2) ||| (U % 2) : Nat) : Int) := u64_or_nat (U / 2) (U % 2) (by omega) (by omega)
  obtain ⟨V3, hV3e⟩ : ∃ V3, V3 = (U / 2) ||| (U % 2) := ⟨_, rfl⟩
  rw [← hV3e] at h1b N5 hV3
  have hSm : bits .or .u64 (S : Int) (m : Int) = ((S + m : Nat) : Int) := by
    refine (u64_or_nat S m (by omega) (by omega)).trans ?_
    rw [or_sgn S m hS (by omega)]
  obtain ⟨V, hV⟩ : ∃ V, V = S + m := ⟨_, rfl⟩
  rw [← hV] at hSm HPK
  obtain ⟨U2, hU2⟩ : ∃ U2, U2 = U % 2 := ⟨_, rfl⟩
  rw [← hU2] at h1a h1b
  have hSb : S < 18446744073709551616 := by omega
  have hVb : V < 18446744073709551616 := by omega
  have hub : (36028797018963966 : Int) ≤ (U : Int) := by omega
  have hUi : (U : Int) < 9223372036854775808 := by omega
  have hV3i : V3 < 18446744073709551616 := by omega
  have hi2 : i < 696 := by omega
  have HE := hide he
  clear hV3e hV3 PK hU hm hX hs hi hb hlp hS hV hU2 kk hh hl he hc
  go_enter Tryz.func158, Tryz.ntmps158
  go_wp2_with fail
  refine (unhide LN _).mono ?_
  rintro ed w1' ⟨rfl, hw⟩
  subst w1'
  rw [Int.toNat_natCast, unhide HB0]
  clear LN
  go_wp2_with fail
  refine (unhide C2 _).mono ?_
  rintro ed w1' ⟨rfl, hw⟩
  subst w1'
  clear C2
  have he := unhide HE
  go_wp2_with fail
  have HB := hide (heap_alloc_new w (.cells #[.int .u64 0, .int .u64 0, .int .i64 0] 213))
  have b0 := (Below.refl w.heap.size w).alloc (Nat.le_refl _) (.cells #[.int .u64 0, .int .u64 0, .int .i64 0] 213)
  have HT : PT _ := fun j hj => ⟨(b0.cell (p := ⟨15, 2 * j, none⟩) hg).trans (hT j hj).1, (b0.cell (p := ⟨15, 2 * j + 1, none⟩) hg).trans (hT j hj).2⟩
  have hne : w.heap.size ≠ 15 := by omega
  refine (prescale_ok w.heap.size _ _ _ _ (e - (c : Int)) p lp i s _ (unhide HB) HT hne (unhide HI) hi2 (unhide HS) (by omega) (by omega)).mono ?_
  rintro ed w3 ⟨rfl, hB3, b3⟩
  have S3 := Sca.of_heap hB3
  have s2 := S3.sh
  have b3' := b0.trans b3
  clear HB HT hB3 b0 b3 hT he
  have hsz3 : w.heap.size ≤ w3.heap.size := b3'.size
  have is2 : (s : Int) < 64 := by omega
  have HBD := hide (⟨bU, hub, hUi, hV3i, hm2, hSb, hVb⟩ : 36028797018963966 ≤ U ∧ (36028797018963966 : Int) ≤ (U : Int) ∧ (U : Int) < 9223372036854775808 ∧ V3 < 18446744073709551616 ∧ m < 9007199254740992 ∧ S < 18446744073709551616 ∧ V < 18446744073709551616)
  clear bU bU2 hub hUi hV3i hm2 hX2 hd hSb hVb
  go_wp2_with fail
  refine (unhide T1 _ _ S3).mono ?_
  rintro ed w4 ⟨rfl, b4⟩
  have b4' := hide (b3'.trans (b4.mono hsz3))
  clear T1 S3 b4 b3' hsz3 s2
  obtain ⟨bU, hub, hUi, hV3i, hm2, hSb, hVb⟩ := unhide HBD
  go_wp2_with fail
  refine (unhide UM _).mono ?_
  rintro ed w5 ⟨rfl, hw⟩
  subst w5
  go_wp2_with fail
  refine (unhide BI _).mono ?_
  rintro ed w5 ⟨rfl, hw⟩
  subst w5
  go_wp2_with fail
  refine (unhide N5 _).mono ?_
  rintro ed w5 ⟨rfl, hw⟩
  subst w5
  go_wp2_with fail
  refine (unhide HPK _).mono ?_
  rintro ed w5 ⟨rfl, hw⟩
  subst w5
  go_wp2
  go_ret2
  exact ⟨rfl, unhide b4'⟩
/-- parseFloat64 where the nearest float is none -/
theorem parse_inf (d S : Nat) (p : Int) (hd0 : 1 ≤ d) (hd : d < 18446744073709551616) (hp : -345 ≤ p ∧ p ≤ 310) (hS : S = 0 ∨ S = 9223372036854775808) :
    ∃ lo, Lo (d * 10 ^ p.toNat * k74) (10 ^ (-p).toNat) lo ∧ (roundR (d * 10 ^ p.toNat * k74) (10 ^ (-p).toNat) lo ≥ infR → ∀ w, PT w → 15 < w.heap.size →
      Calls Tryz.prog 158 #[.int .u64 d, .int .i64 p, .int .u64 S] w fun ed w' => ed = .returned (.tuple #[.float .f64 (S + infR), (Value.iface 96 (.int .i64 1))]) ∧ Below w.heap.size w w') := by
  obtain ⟨k, hk⟩ : ∃ k, k = Nat.log2 d := ⟨_, rfl⟩
  have k0 : 2 ^ k ≤ d := by rw [hk]; exact Nat.log2_self_le (by omega)
  have k1 : d < 2 ^ (k + 1) := by rw [hk]; exact Nat.lt_log2_self
  have k63 : k ≤ 63 := by
    rcases Nat.lt_or_ge 63 k with h | h
    · have := Nat.pow_le_pow_right (by decide : 0 < 2) (show 64 ≤ k from h)
      have e : (2 : Nat) ^ 64 = 18446744073709551616 := rfl
      omega
    · exact h
  obtain ⟨c, hc⟩ : ∃ c, c = 63 - k := ⟨_, rfl⟩
  obtain ⟨b, hb⟩ : ∃ b, b = k + 1 := ⟨_, rfl⟩
  have hbl : Lib.bitLen d = b := by rw [hb]; exact bitLen_at k0 k1 hd
  have hbc : b + c = 64 := by omega
  have hx0 : 9223372036854775808 ≤ d * 2 ^ c := by
    have := Nat.mul_le_mul_right (2 ^ c) k0
    rw [← Nat.pow_add, show k + c = 63 by omega] at this
    exact this
  have hx : d * 2 ^ c < 18446744073709551616 := by
    have := Nat.mul_lt_mul_of_pos_right k1 (Nat.two_pow_pos c)
    rw [← Nat.pow_add, show k + 1 + c = 64 by omega] at this
    exact this
  obtain ⟨lp, hlp⟩ : ∃ lp, lp = p * 108853 / 32768 := ⟨_, rfl⟩
  obtain ⟨e, he⟩ : ∃ e : Int, e = min 1074 (53 - (b : Int) - lp) := ⟨_, rfl⟩
  obtain ⟨s, hs⟩ : ∃ s : Nat, (s : Int) = 61 - (b : Int) - e - lp := ⟨(61 - (b : Int) - e - lp).toNat, by omega⟩
  obtain ⟨K, hK⟩ : ∃ K : Nat, (K : Int) = 1074 - e := ⟨(1074 - e).toNat, by omega⟩
  obtain ⟨i, hi⟩ : ∃ i : Nat, (i : Int) = p + 348 := ⟨(p + 348).toNat, by omega⟩
  have hs8 : 8 ≤ s := by omega
  have hc64 : 64 - b = c := by omega
  obtain ⟨U, hU⟩ : ∃ U, U = un (d * 2 ^ c * eA p) (q64 * q64 * eB p * 2 ^ s) := ⟨_, rfl⟩
  obtain ⟨lo, hlo, A1, A2, A3⟩ := prs_ok d b s K p e (by omega) (by omega) (by omega) (by rw [hc64]; exact hx0) (by rw [hc64]; exact hx) (by rw [he, hlp]; rfl) (by rw [hs, hlp]; rfl) hK U (by rw [hc64]; exact hU)
  refine ⟨lo, hlo, fun hR w hT hg => ?_⟩
  have hs' : -(e - (c : Int) + lp + 3) = (s : Int) := by omega
  rcases Nat.lt_or_ge s 64 with h64 | h64
  · have hie : i = (p + 348).toNat := by omega
    have hh := tab_hi p (by omega) (by omega)
    have hHi : rowH i = tabH p := by rw [hie]; rfl
    have hLi : rowL i = tabL p := by rw [hie]; rfl
    have hUs : U = us (d * 2 ^ c) (rowH i) (rowL i) s := by rw [hU, hHi, hLi]; exact (uscale_read p (by omega) (by omega) _ s hx0 hx hs8).symm
    have kk : 1 ≤ d * 2 ^ c * rowH i / 18446744073709551616 := by
      rw [hHi]
      have := Nat.mul_le_mul hx0 hh.1
      omega
    have q : q64 = 18446744073709551616 := rfl
    have e52 : b52 = 4503599627370496 := rfl
    have e53 : b53 = 9007199254740992 := rfl
    have eI : infR = 9218868437227405312 := rfl
    generalize roundR (d * 10 ^ p.toNat * k74) (10 ^ (-p).toNat) lo = R at *
    rcases Nat.lt_or_ge U 36028797018963966 with hlt | hge
    · obtain ⟨r1, r2, r3⟩ := A1 (by omega)
      obtain ⟨m, hm⟩ : ∃ m, m = (U + 1 + U / 4 % 2) / 4 := ⟨_, rfl⟩
      rw [← hm] at r1 r2 r3
      simp only [e52] at r1
      refine parse_loI d b c s i S U m (d * 2 ^ c) (S + infR) p lp e w hT hg hd0 hd hbl (by omega) (by omega) hbc hp hlp he.symm hi hs' h64 rfl hx kk (by rw [hHi]; omega) (by rw [hLi]; omega) hUs hlt hm (by omega) hS ?_
      intro W
      have := pk_inf S (m - 4503599627370496) (-e) W hS (by omega) (by omega)
      rw [show 4503599627370496 + (m - 4503599627370496) = m by omega] at this
      exact this
    · obtain ⟨r1, r2, r3⟩ := A2 (by omega)
      obtain ⟨m, hm⟩ : ∃ m, m = (((U / 2) ||| (U % 2)) + 1 + ((U / 2) ||| (U % 2)) / 4 % 2) / 4 := ⟨_, rfl⟩
      rw [← hm] at r1 r2 r3
      simp only [e52] at r1
      have hle : U / 2 ≤ (U / 2) ||| (U % 2) := Nat.left_le_or
      refine parse_hiI d b c s i S U m (d * 2 ^ c) (S + infR) p lp e w hT hg hd0 hd hbl (by omega) (by omega) hbc hp hlp he.symm hi hs' h64 rfl hx kk (by rw [hHi]; omega) (by rw [hLi]; omega) hUs hge (by omega) hm (by omega) hS ?_
      intro W
      have := pk_inf S (m - 4503599627370496) (-(e - 1)) W hS (by omega) (by omega)
      rw [show 4503599627370496 + (m - 4503599627370496) = m by omega] at this
      exact this
  · rw [A3 h64] at hR
    exact absurd hR (by decide)
end Go.Proofs.YtjlaoeigfokkiaaGreatDoor.fto
