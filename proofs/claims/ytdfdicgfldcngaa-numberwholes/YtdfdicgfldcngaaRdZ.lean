import Derived.Test.YtdfdicgfldcngaaCutZ
namespace Go.Proofs.Ytdfdicgfldcngaa.mem
open Go.ChangeShapes Go.WideShapes Go.ChangeAt Go.RowKit
open ints (hide unhide)
set_option linter.unusedVariables false

theorem roundR_le (P B lo : Nat) : roundR P B lo ≤ lo + 1 := by
  unfold roundR
  split <;> omega
theorem loN_le {n : Nat} (h : n ≠ 0) (hn : n < 2 ^ 64) : loN n + 1 < 9218868437227405312 := by
  have hL : n.log2 < 64 := (Nat.log2_lt h).2 hn
  obtain ⟨b1, b2⟩ := q_bd h
  have := e22_eq
  unfold loN
  generalize n * b52 / 2 ^ n.log2 = q at *
  generalize n.log2 = L at *
  unfold b52 b53 at *
  omega
theorem orSign (r : Nat) (h : r < 9223372036854775808) : bits .or .u64 (r : Int) 9223372036854775808 = ((9223372036854775808 + r : Nat) : Int) := by
  have := u64_or_nat r 9223372036854775808 (by omega) (by omega)
  rw [show (r ||| 9223372036854775808) = 9223372036854775808 + r from by
    rw [Nat.or_comm, show (9223372036854775808 : Nat) = 2 ^ 63 * 1 from rfl, Nat.two_pow_add_eq_or_of_lt (by omega)]] at this
  exact this
theorem dig_byt {ds : List Int} (h : dig ds) : Byt ds := fun z hz => by have := h z hz; omega
/-- ReadBits of a whole number's text. -/
theorem readBits_whole (s : ByteArray) (ng : Bool) (T k : Nat) (w : World) (hT : T ≠ 0) (hTl : T < 2 ^ 64) (hk : Dec10 T k) (hz : bytesZ s = (if ng then [45] else []) ++ topD T k) :
    Calls Try.prog 32 #[.string s] w fun e w' => e = .returned (.tuple #[.int .u64 (Ieee.double.nearest ng T 0 : Nat), .bool true]) ∧ Below w.heap.size w w' := by
  have hlo := loN_le hT hTl
  have hle := roundR_le (T * k74) 1 (loN T)
  have hne := nearest_int ng hT hTl
  have hw : Ieee.double.word ng (roundR (T * k74) 1 (loN T)) = if ng then 9223372036854775808 + roundR (T * k74) 1 (loN T) else roundR (T * k74) 1 (loN T) := rfl
  rw [hw] at hne
  have hk1 := hk.pos
  have hk2 := hk.le
  have hf : (topD T k).getD 0 0 ≠ 48 := by
    rw [topD_get hk1]
    have h10 : 10 ^ (k - 1) ≤ T := by
      rcases hk.low with h | h
      · subst h; simp; omega
      · exact h
    have h1 : 1 ≤ T / 10 ^ (k - 1) := Nat.div_pos h10 (Nat.pow_pos (by decide))
    have h2 : T / 10 ^ (k - 1) < 10 := by
      rw [Nat.div_lt_iff_lt_mul (Nat.pow_pos (by decide))]
      have := hk.lt
      rw [show k = (k - 1) + 1 by omega, Nat.pow_succ] at this
      omega
    rw [Nat.sub_zero, Nat.mod_eq_of_lt h2]
    omega
  have C := hide (fun W => cut_whole s ng (topD T k) W hz (topD_dig T k) hf (by rw [topD_len]; omega))
  have hbz := bytesZ_str (topD T k) (dig_byt (topD_dig T k))
  have hsz : (strOfNums (topD T k)).size = k := by rw [strOfNums_size, topD_len]
  have D := hide (fun W => dec_zero (strOfNums (topD T k)) W (by rw [hsz]; omega) (by rw [hbz]; exact topD_dig T k))
  have hdt : dT (bytesZ (strOfNums (topD T k))) (strOfNums (topD T k)).size = T := by rw [hbz, hsz]; exact dT_all T k hk.lt
  rw [hdt] at D
  have BI := hide (fun aT aB nT cT nB cB W h1 h2 h3 h4 => bits_any aT aB nT cT nB cB T 1 W h1 h2 h3 h4 (loN T) (loN_lo hT) (by omega))
  obtain ⟨R, hR⟩ : ∃ R, R = roundR (T * k74) 1 (loN T) := ⟨_, rfl⟩
  rw [← hR] at hne hle BI
  have hRl : R < 9218868437227405312 := by omega
  rw [decide_eq_true hRl] at BI
  have HNE := hide hne
  obtain ⟨S, hS⟩ : ∃ S, S = strOfNums (topD T k) := ⟨_, rfl⟩
  rw [← hS] at C D hsz
  have hs0 : (S.toList == ([] : List UInt8)) = false := by
    rw [beq_eq_false_iff_ne, ByteArray.toList_eq]
    intro e
    have h1 := congrArg List.length e
    rw [Array.length_toList] at h1
    have h2 : S.data.size = k := hsz
    rw [h2] at h1
    simp at h1
    omega
  clear hne hdt hbz hf hz hR hS hw hlo hle
  go_enter Try.func32, Try.ntmps32
  go_wp2_with fail
  refine (unhide C _).mono ?_
  rintro e w1 ⟨rfl, b1⟩
  go_wp2_with fail
  refine (unhide D _).mono ?_
  rintro e w2 ⟨aT, nT, cT, aB, nB, cB, rfl, BT, BB, b2⟩
  have hb2 := b1.trans (b2.mono b1.size)
  have hnT := BT.len (k := 2) (by simpa using hTl)
  have hnB := BB.len (k := 1) (by decide)
  clear C D b1 b2
  go_wp2_with fail
  refine (unhide BI aT aB nT cT nB cB w2 BT BB (by omega) (by omega)).mono ?_
  rintro e w3 ⟨rfl, b3⟩
  have hb3 := hb2.trans (b3.mono hb2.size)
  have hor := orSign R (by omega)
  have HOR := hide hor
  clear BI hb2 b3 hor
  cases ng
  · have HN := hide (show Ieee.double.nearest false T 0 = R from unhide HNE)
    clear HNE
    go_wp2
    go_ret2
    exact ⟨by rw [unhide HN]; rfl, hb3⟩
  · have HN := hide (show Ieee.double.nearest true T 0 = 9223372036854775808 + R from unhide HNE)
    clear HNE
    go_wp2
    go_ret2
    refine ⟨?_, hb3⟩
    rw [unhide HN, ← unhide HOR]
    rfl
end Go.Proofs.Ytdfdicgfldcngaa.mem
