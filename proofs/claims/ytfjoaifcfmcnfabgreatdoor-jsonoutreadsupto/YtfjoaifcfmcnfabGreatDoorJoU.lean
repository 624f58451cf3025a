import Derived.Test.YtfjoaifcfmcnfabGreatDoorJoR
import Derived.Maps.AppendAt
import Derived.Deep.DeepMust
namespace Go.Proofs.YtfjoaifcfmcnfabGreatDoor.jsn
open Go.ChangeShapes Go.WideShapes Go.ChangeAt Go.RowKit
open mem vl Go.Maps
open ints (hide unhide)
set_option linter.unusedVariables false
theorem get_body {T : ByteArray} {l : List UInt8} (hT : T.data.toList = body l) {k : Nat} (hk : k < l.length) {j : Nat} {x : UInt8} (hx : (escU (l.getD k 0))[j]? = some x) :
    ∃ h : (body (l.take k)).length + j < T.size, T[(body (l.take k)).length + j]'h = x := by
  have e : body l = body (l.take k) ++ (escU (l.getD k 0) ++ body (l.drop (k + 1))) := by
    have h1 : l = l.take (k + 1) ++ l.drop (k + 1) := (List.take_append_drop _ _).symm
    conv => lhs; rw [h1, body_app, body_snoc hk, List.append_assoc]
  have h2 : T.data.toList[(body (l.take k)).length + j]? = some x := by
    rw [hT, e, List.getElem?_append_right (by omega), Nat.add_sub_cancel_left]
    rw [List.getElem?_append_left (by rcases Nat.lt_or_ge j (escU (l.getD k 0)).length with h | h; exact h; rw [List.getElem?_eq_none h] at hx; cases hx)]
    exact hx
  obtain ⟨h3, h4⟩ := List.getElem?_eq_some_iff.1 h2
  refine ⟨by rw [size_list] at h3; exact h3, ?_⟩
  rw [← h4]
  rfl
theorem short_cases (c : UInt8) (h : std c = false) : (∃ x : UInt8, escU c = [92, x] ∧ ¬ (x.toNat : Int) = 117 ∧ ¬ (c.toNat : Int) = 0 ∧ ∀ w : World, Calls Tryz.prog 26 #[.int .u8 (x.toNat : Int)] w fun e w' => e = .returned (.int .u8 (c.toNat : Int)) ∧ Below w.heap.size w w') ∨
    (∃ hi lo : Nat, hi < 16 ∧ lo < 16 ∧ escU c = [92, 117, 48, 48, hxU (UInt8.ofNat hi), hxU (UInt8.ofNat lo)] ∧ c.toNat = hi * 16 + lo ∧ c.toNat < 32 ∧ ¬ (c.toNat : Int) = 8 ∧ ¬ (c.toNat : Int) = 9 ∧ ¬ (c.toNat : Int) = 10 ∧ ¬ (c.toNat : Int) = 12 ∧ ¬ (c.toNat : Int) = 13) := by
  have key0 : ∀ n, n < 32 → (n == 8 || n == 9 || n == 10 || n == 12 || n == 13 || escU (UInt8.ofNat n) == [92, 117, 48, 48, hxU (UInt8.ofNat (n / 16)), hxU (UInt8.ofNat (n % 16))]) = true := by decide +kernel
  have key : std c = false → c.toNat = 34 ∨ c.toNat = 92 ∨ c.toNat = 8 ∨ c.toNat = 9 ∨ c.toNat = 10 ∨ c.toNat = 12 ∨ c.toNat = 13 ∨ (c.toNat < 32 ∧ c.toNat ≠ 8 ∧ c.toNat ≠ 9 ∧ c.toNat ≠ 10 ∧ c.toNat ≠ 12 ∧ c.toNat ≠ 13) := by
    intro h0
    rcases std_out c with ⟨h1, -⟩ | ⟨-, h1⟩
    · rw [h0] at h1; cases h1
    · omega
  have e : UInt8.ofNat c.toNat = c := UInt8.ofNat_toNat
  obtain ⟨n, hn⟩ : ∃ n, n = c.toNat := ⟨_, rfl⟩
  rw [← hn] at e key ⊢
  have key := key h
  rw [← e]
  clear e hn h
  rcases key with rfl | rfl | rfl | rfl | rfl | rfl | rfl | ⟨h1, h2, h3, h4, h5, h6⟩
  · exact .inl ⟨34, rfl, by decide, by decide, plain_34⟩
  · exact .inl ⟨92, rfl, by decide, by decide, plain_92⟩
  · exact .inl ⟨98, rfl, by decide, by decide, plain_98⟩
  · exact .inl ⟨116, rfl, by decide, by decide, plain_116⟩
  · exact .inl ⟨110, rfl, by decide, by decide, plain_110⟩
  · exact .inl ⟨102, rfl, by decide, by decide, plain_102⟩
  · exact .inl ⟨114, rfl, by decide, by decide, plain_114⟩
  · exact .inr ⟨n / 16, n % 16, by omega, by omega, (by have := key0 n h1; simpa [h2, h3, h4, h5, h6] using this), by omega, h1, by omega, by omega, by omega, by omega, by omega⟩
theorem cells_snoc (l : List UInt8) (k : Nat) (hk : k < l.length) : Lib.byteCells (l.take (k + 1)) = Lib.byteCells (l.take k) ++ [.int .u8 ((l.getD k 0).toNat : Int)] := by
  rw [List.take_add_one]
  unfold Lib.byteCells
  rw [List.map_append, List.getElem?_eq_getElem hk]
  congr 1
  simp [List.getD, hk]
set_option maxHeartbeats 4000000 in
set_option maxRecDepth 100000 in
theorem unread_ok (s T : ByteArray) (hT : T.data.toList = body s.data.toList) (w : World) (hs : s.size ≤ 1048576) :
    Calls Tryz.prog 12 #[.string T] w fun e w' => ∃ r, e = .returned (.tuple #[r, .bool true]) ∧ w'.ownsRow w.heap.size 5 1 r s.size (Lib.byteCells s.data.toList) ∧ Below w.heap.size w w' := by
  obtain ⟨i0, hi, hz0, hz1, hz2'⟩ := info_parts info8
  go_enter Tryz.func12, Tryz.ntmps12
  go_wp2_with fail
  have hsl := size_list s
  have hTs : T.size = (body s.data.toList).length := by rw [← size_list, hT]
  have hbl := body_len s.data.toList
  have hT2 : T.size ≤ 6291456 := by omega
  clear hbl
  go_loopw [4, 5] (fun v vi wr => ∃ (k p : Nat), k ≤ s.size ∧ Hid (p = (body (s.data.toList.take k)).length) ∧ p ≤ T.size ∧ vi = .int .i64 p ∧ wr.ownsRow w.heap.size 5 1 v k (Lib.byteCells (s.data.toList.take k)) ∧ Below w.heap.size w wr) (fun _ vi _ => T.size - (intOf vi).toNat)
  case atStart => exact ⟨0, 0, Nat.zero_le _, hide rfl, Nat.zero_le _, rfl, World.ownsRow_nil _ _ _ _, Below.refl _ _⟩
  case round =>
    obtain ⟨k, p, hk, hp, hpT, rfl, hown, hb⟩ := hrel
    by_cases hlt : k < s.size
    · have hkl : k < s.data.toList.length := by omega
      have hsn := hide (cells_snoc s.data.toList k hkl)
      have hbs := body_snoc hkl
      have G : ∀ j x, (escU (s.data.toList.getD k 0))[j]? = some x → ∃ h : p + j < T.size, T[p + j]'h = x := by
        intro j x hx
        have := get_body hT hkl hx
        rw [← unhide hp] at this
        exact this
      have hpre := body_pre s.data.toList (k + 1)
      obtain ⟨c, hc⟩ : ∃ c, c = s.data.toList.getD k 0 := ⟨_, rfl⟩
      rw [← hc] at G hsn hbs
      have hp2 := congrArg List.length hbs
      rw [List.length_append, ← unhide hp] at hp2
      clear hc hbs
      have hBW := hide hb
      have hsz := hb.size
      rcases std_out c with ⟨h0, h1, h2, h3⟩ | ⟨h0, -⟩
      · rw [esc_std c h0] at G hp2
        obtain ⟨l0, g0⟩ := G 0 c rfl
        have l0 : p < T.size := l0
        have g0 : T[p] = c := g0
        have h1 : ¬ (c.toNat : Int) < 32 := by omega
        have e2 : ((c.toNat : Int) == 34) = false := by simp [h2]
        have e3 : ((c.toNat : Int) != 92) = true := by simp [h3]
        simp only [List.length_cons, List.length_nil] at hp2
        have hq := hide (show p + 1 = (body (s.data.toList.take (k + 1))).length by omega)
        have hq1 : p + 1 ≤ T.size := by omega
        clear G h0 hb hT hTs hpre hp2 hp
        go_wp2_with (at_builtin; refine wpList_append_own _ rfl _ _ 30 rfl w.heap.size 5 i0 (.int .u8 0) 1 1 Tryz.underlying30 hi hz0 hz1 hz2' rfl (by decide) _ _ _ rfl (hown.alloc _) ⟨wr.heap.size, 0, none⟩ 1 1 [.int .u8 ((c.toNat : Int))] rfl rfl (cell_one_new _ _ _) (ints_oneCell .u8 [(c.toNat : Int)]) (by unfold maxLen; omega) (by omega) (by simp; omega) ?_; intro v' w2 hown' hgrow hnil2)
        have s2 := hgrow.size
        simp at s2
        refine ⟨⟨k + 1, p + 1, by omega, hq, hq1, rfl, ?_, ?_⟩, ?_⟩
        · rw [unhide hsn]; exact hown'
        · exact ((unhide hBW).alloc hsz _).grown hgrow (by simp; omega) (fun q hq => ((hown.alloc (.cells #[.int .u8 (c.toNat : Int)] 5)).lt q hq).1)
        · simp only [intOf]
          omega
      · rcases short_cases c h0 with ⟨x, he, hx1, hc0, PL⟩ | ⟨hi', lo, hh, hl, he, hcn, hc32, h8, h9, h10, h12, h13⟩
        · rw [he] at G hp2
          obtain ⟨l0, g0⟩ := G 0 92 rfl
          obtain ⟨l1, g1⟩ := G 1 x rfl
          have l0 : p < T.size := l0
          have g0 : T[p] = 92 := g0
          have e1 : ((x.toNat : Int) != 117) = true := by simp [hx1]
          have e2 : ((c.toNat : Int) == 0) = false := by rw [beq_eq_false_iff_ne]; exact hc0
          simp only [List.length_cons, List.length_nil] at hp2
          have hq := hide (show p + 1 + 1 = (body (s.data.toList.take (k + 1))).length by omega)
          have hq1 : p + 1 + 1 ≤ T.size := by omega
          have PL := hide PL
          clear G h0 hb hT hTs hpre hp2 hp he
          go_wp2_with fail
          refine (unhide PL _).mono ?_
          rintro e w1 ⟨rfl, b1⟩
          have hown1 := own_below hown b1
          have hsz1 : w.heap.size ≤ w1.heap.size := Nat.le_trans hsz b1.size
          have hB1 := hide ((unhide hBW).trans (b1.mono hsz))
          clear hown b1 hBW
          go_wp2_with fail
          refine (unhide PL _).mono ?_
          rintro e w3 ⟨rfl, b3⟩
          have hown3 := own_below hown1 b3
          have hsz3 : w.heap.size ≤ w3.heap.size := Nat.le_trans hsz1 b3.size
          have hB3 := hide ((unhide hB1).trans (b3.mono hsz1))
          clear hown1 b3 hB1
          go_wp2_with (at_builtin; refine wpList_append_own _ rfl _ _ 30 rfl w.heap.size 5 i0 (.int .u8 0) 1 1 Tryz.underlying30 hi hz0 hz1 hz2' rfl (by decide) _ _ _ rfl (hown3.alloc _) ⟨w3.heap.size, 0, none⟩ 1 1 [.int .u8 ((c.toNat : Int))] rfl rfl (cell_one_new _ _ _) (ints_oneCell .u8 [(c.toNat : Int)]) (by unfold maxLen; omega) (by omega) (by simp; omega) ?_; intro v' w2 hown' hgrow hnil2)
          have s2 := hgrow.size
          simp at s2
          refine ⟨⟨k + 1, p + 1 + 1, by omega, hq, hq1, rfl, ?_, ?_⟩, ?_⟩
          · rw [unhide hsn]; exact hown'
          · exact ((unhide hB3).alloc hsz3 _).grown hgrow (by simp; omega) (fun q hq => ((hown3.alloc (.cells #[.int .u8 (c.toNat : Int)] 5)).lt q hq).1)
          · simp only [intOf]
            omega
        · rw [he] at G hp2
          obtain ⟨l0, g0⟩ := G 0 92 rfl
          obtain ⟨l1, g1⟩ := G 1 117 rfl
          obtain ⟨l2, g2⟩ := G 2 48 rfl
          obtain ⟨l3, g3⟩ := G 3 48 rfl
          obtain ⟨l4, g4⟩ := G 4 _ rfl
          obtain ⟨l5, g5⟩ := G 5 _ rfl
          have l0 : p < T.size := l0
          have g0 : T[p] = 92 := g0
          simp only [List.length_cons, List.length_nil] at hp2
          have S1 := hide (fun W => small_ok hi' hh W)
          have S2 := hide (fun W => small_ok lo hl W)
          obtain ⟨XA, hXA⟩ : ∃ XA, XA = hxU (UInt8.ofNat hi') := ⟨_, rfl⟩
          obtain ⟨XB, hXB⟩ : ∃ XB, XB = hxU (UInt8.ofNat lo) := ⟨_, rfl⟩
          rw [← hXA] at S1 g4
          rw [← hXB] at S2 g5
          clear hXA hXB
          have hq := hide (show p + 1 + 4 + 1 = (body (s.data.toList.take (k + 1))).length by omega)
          have hq1 : p + 1 + 4 + 1 ≤ T.size := by omega
          clear G h0 hb hT hTs hpre hp2 hp he
          have p1 : ¬ (hi' : Int) < 0 := by omega
          have p2 : ¬ (lo : Int) < 0 := by omega
          have HK := hide (show k + 1 ≤ s.size ∧ T.size ≤ 6291456 ∧ p < T.size ∧ s.size ≤ 1048576 by omega)
          have HH := hide (show (hi' : Int) < 16 ∧ (lo : Int) < 16 by omega)
          have HN := hide hcn
          have H32 := hide hc32
          have H8 := hide h8
          have H9 := hide h9
          have H10 := hide h10
          have H12 := hide h12
          have H13 := hide h13
          clear h8 h9 h10 h12 h13 hcn hc32
          go_wp2_with fail
          refine (unhide S1 _).mono ?_
          rintro e wq ⟨rfl, rfl⟩
          go_wp2_with fail
          refine (unhide S2 _).mono ?_
          rintro e wq2 ⟨rfl, rfl⟩
          go_wp2_with fail
          have qa0 : (p : Int) + 1 + 3 < (T.size : Int) := by omega
          have qb0 : (0 : Int) ≤ (p : Int) + 1 + 3 := by omega
          have qt0 : ((p : Int) + 1 + 3).toNat = p + 4 := by omega
          have qw0 : IntKind.i64.wrap ((p : Int) + 1 + 3) = (p : Int) + 1 + 3 := IntWalk.i64_in _ ⟨by omega, by omega⟩
          have qa1 : (p : Int) + 1 + 4 < (T.size : Int) := by omega
          have qb1 : (0 : Int) ≤ (p : Int) + 1 + 4 := by omega
          have qt1 : ((p : Int) + 1 + 4).toNat = p + 5 := by omega
          have qw1 : IntKind.i64.wrap ((p : Int) + 1 + 4) = (p : Int) + 1 + 4 := IntWalk.i64_in _ ⟨by omega, by omega⟩
          have w16 : IntKind.i64.wrap ((hi' : Int) * 16) = (hi' : Int) * 16 := IntWalk.i64_in _ ⟨by omega, by omega⟩
          have wsum : IntKind.i64.wrap ((hi' : Int) * 16 + (lo : Int)) = (hi' : Int) * 16 + (lo : Int) := IntWalk.i64_in _ ⟨by omega, by omega⟩
          have HQ := hide hq1
          have HK2 := hide hk
          clear g0 g1 g2 g3 l0 l1 l2 l3 p1 p2 hq1 hk hlt hkl hh hl hT2 hpT hs hsl hsz
          go_region_with (first
            | (go_at_call_of 27 XA; refine (unhide S1 _).mono ?_; rintro e wq3 ⟨rfl, rfl⟩)
            | (go_at_call_of 27 XB; refine (unhide S2 _).mono ?_; rintro e wq3 ⟨rfl, rfl⟩))
          all_goals
            have hkk := unhide HK
            have hh2 := unhide HH
            have hcn := unhide HN
            have hc32 := unhide H32
            have h8 := unhide H8
            have h9 := unhide H9
            have h10 := unhide H10
            have h12 := unhide H12
            have h13 := unhide H13
            have hN := hide (show (hi' : Int) * 16 + (lo : Int) = (c.toNat : Int) by omega)
            obtain ⟨z, hz⟩ : ∃ z : Int, z = (hi' : Int) * 16 + (lo : Int) := ⟨_, rfl⟩
            rw [← hz] at hN wsum
            have e32 : ¬ (32 : Int) ≤ z := by omega
            have e8 : (z == 8) = false := by rw [beq_eq_false_iff_ne]; omega
            have e9 : (z == 9) = false := by rw [beq_eq_false_iff_ne]; omega
            have e10 : (z == 10) = false := by rw [beq_eq_false_iff_ne]; omega
            have e12 : (z == 12) = false := by rw [beq_eq_false_iff_ne]; omega
            have e13 : (z == 13) = false := by rw [beq_eq_false_iff_ne]; omega
            have hwr : IntKind.u8.wrap z = z := by rw [IntKind.wrap_u8]; omega
            have hz2 := hz.symm
            have hq5 : (p : Int) + 1 + 4 + 1 ≤ (T.size : Int) := by have := unhide HQ; omega
            clear h8 h9 h10 h12 h13 hc32 hcn hz g4 g5
            have hszq : w.heap.size ≤ (wq2.alloc (.cells #[.int .u8 z] 5)).drew.heap.size := by have := (unhide hBW).size; show _ ≤ (wq2.alloc _).heap.size; simp; omega
            have hcelq : ∀ j u, [Value.int .u8 z][j]? = some u → (wq2.alloc (.cells #[.int .u8 z] 5)).drew.cell? ((⟨wq2.heap.size, 0, none⟩ : Addr).add j) = some u := fun j u h => cell_one_new wq2 _ _ j u h
            have hownq := (hown.alloc (.cells #[.int .u8 z] 5)).drew
            go_wp2_with (at_builtin; go_must (refine wpList_append_own _ rfl _ _ 30 rfl w.heap.size 5 i0 (.int .u8 0) 1 1 Tryz.underlying30 hi hz0 hz1 hz2' rfl (by decide) _ _ _ rfl hownq ⟨wq2.heap.size, 0, none⟩ 1 1 [.int .u8 z] rfl rfl hcelq (ints_oneCell .u8 [z]) (by unfold maxLen; omega) (by omega) hszq ?_; intro v' w2 hown' hgrow hnil2))
            have hqq := unhide HQ
            have hzc : z = (c.toNat : Int) := by have := unhide hN; omega
            refine ⟨⟨k + 1, p + 1 + 4 + 1, by omega, hq, hqq, rfl, ?_, ?_⟩, ?_⟩
            · rw [unhide hsn, ← hzc]; exact hown'
            · exact ((unhide hBW).alloc (unhide hBW).size _).drew.grown hgrow hszq (fun q hq => (hownq.lt q hq).1)
            · simp only [intOf]
              omega
    · obtain rfl : k = s.size := by omega
      have hpe := unhide hp
      rw [List.take_of_length_le (by omega), ← hTs] at hpe
      have hnl : ¬ p < T.size := by omega
      have Hown := hide hown
      rw [List.take_of_length_le (by omega)] at Hown
      clear hown hT hTs hpe hp
      go_wp2
      go_ret2
      exact ⟨_, rfl, unhide Hown, hb⟩
end Go.Proofs.YtfjoaifcfmcnfabGreatDoor.jsn
