import Derived.Test.YtdfdicgfldcngaaDecZ
namespace Go.Proofs.Ytdfdicgfldcngaa.mem
open Go.ChangeShapes Go.WideShapes Go.ChangeAt Go.RowKit
open ints (hide unhide)
set_option linter.unusedVariables false

def flg (sg k : Nat) : Bool := decide (sg = 1 ∧ 0 < k)
set_option maxRecDepth 8000 in
set_option maxHeartbeats 4000000 in
/-- cut of a whole number's text: a sign or none, then digits, the first of them no nought. -/
theorem cut_whole (s : ByteArray) (ng : Bool) (ds : List Int) (w : World) (hz : bytesZ s = (if ng then [45] else []) ++ ds) (hd : dig ds) (hf : ds.getD 0 0 ≠ 48) (hl : ds.length ≤ 100) :
    Calls Try.prog 54 #[.string s] w fun e w' => e = .returned (.tuple #[.bool ng, .string (strOfNums ds), .int .i64 0]) ∧ Below w.heap.size w w' := by
  obtain ⟨i0, hi, hz0, hz1, hz2⟩ := info_parts info8
  obtain ⟨sg, hsg⟩ : ∃ sg : Nat, sg = if ng then 1 else 0 := ⟨_, rfl⟩
  have hsz : s.size = sg + ds.length := by
    rw [← bytesZ_len, hz, hsg]
    cases ng <;> simp
    omega
  have HG := hide (show ∀ k, sg ≤ k → (bytesZ s).getD k 0 = ds.getD (k - sg) 0 from fun k hk => by
    rw [hz]
    cases ng
    · simp at hsg; subst hsg; simp
    · simp at hsg; subst hsg; rw [if_pos rfl, getD_right (by simpa using hk)]; rfl)
  have HS0 := hide (show sg = 1 → (bytesZ s).getD 0 0 = 45 from fun h => by
    rw [hz]
    cases ng
    · simp at hsg; omega
    · rfl)
  have HNG := hide (show ng = decide (sg = 1) from by rw [hsg]; cases ng <;> simp)
  have hsg1 : sg ≤ 1 := by rw [hsg]; cases ng <;> simp
  have HD := hide hd
  have HF := hide hf
  clear hsg hz hd hf
  go_enter Try.func54, Try.ntmps54
  go_wp2
  go_loopw [5, 6, 7, 8, 9, 10, 11, 12, 13] (fun g b x ex dt e dn mo i wr => ∃ k : Nat, k ≤ s.size ∧ i = .int .i64 k ∧ g = .bool (flg sg k) ∧ x = .int .i64 0 ∧ ex = .int .i64 0 ∧ dt = .bool false ∧ e = .bool false ∧ dn = .bool false ∧ mo = .bool false ∧ wr.ownsRow w.heap.size 5 1 b (k - sg) ((ds.take (k - sg)).map (Value.int .u8)) ∧ Below w.heap.size w wr) (fun _ _ _ _ _ _ _ _ i _ => s.size - (intOf i).toNat)
  case atStart => exact ⟨0, Nat.zero_le _, rfl, by simp [flg], rfl, rfl, rfl, rfl, rfl, rfl, by simp only [Nat.zero_sub, List.take_zero, List.map_nil]; exact World.ownsRow_nil _ _ _ _, Below.refl _ _⟩
  case round =>
    obtain ⟨k, hk, rfl, rfl, rfl, rfl, rfl, rfl, rfl, rfl, hown, hbel⟩ := hrel
    have hszb := hbel.size
    by_cases hlt : k < s.size
    · have ki : (k : Int) < (s.size : Int) := by omega
      have HZ := hide (bytesZ_at s k hlt)
      by_cases hks : k < sg
      · have hk0 : k = 0 := by omega
        have hs1 : sg = 1 := by omega
        subst hk0
        subst hs1
        have hy : ((s[0]'hlt).toNat : Int) = 45 := by rw [← unhide HZ]; exact unhide HS0 rfl
        go_wp2
        go_roundw
        case rel => exact ⟨1, by omega, rfl, rfl, rfl, rfl, rfl, rfl, rfl, rfl, by simpa using hown, hbel⟩
        case measure => simp [intOf]; omega
      · obtain ⟨m, hm⟩ : ∃ m, m = k - sg := ⟨_, rfl⟩
        have hkm : k = sg + m := by omega
        have hml : m < ds.length := by omega
        have hdd := (unhide HD) _ (getD_mem hml)
        have hy : ((s[k]'hlt).toNat : Int) = ds.getD m 0 := by rw [← unhide HZ, unhide HG k (by omega), hm]
        rw [← hy] at hdd
        obtain ⟨hd0, hd1⟩ := hdd
        have HY := hide hy
        have HN0 := hide (show m = 0 → ((s[k]'hlt).toNat : Int) ≠ 48 from fun h => by rw [hy, h]; exact unhide HF)
        have HTK := hide (take_snoc (zs := ds) (k := m) hml)
        rw [← hm] at hown
        obtain ⟨aB, cB, rfl⟩ := own_shape hown
        have hkm1 : k ≤ sg + m := by omega
        have hkm2 : sg + m ≤ k := by omega
        clear hy HZ hm hkm
        have n1 : (((s[k]'hlt).toNat : Int) == 46) = false := by simp; omega
        have n2 : (((s[k]'hlt).toNat : Int) == 101) = false := by simp; omega
        have n3 : (((s[k]'hlt).toNat : Int) == 69) = false := by simp; omega
        have n4 : (((s[k]'hlt).toNat : Int) == 45) = false := by simp; omega
        have n5 : (((s[k]'hlt).toNat : Int) == 43) = false := by simp; omega
        have n6 : ((m : Int) == 800) = false := by simp; omega
        have hdec : flg sg k = flg sg (k + 1) := decide_eq_decide.2 (by omega)
        have HDC := hide hdec
        clear hdec
        by_cases hm0 : m ≤ 0
        · have n7 : (((s[k]'hlt).toNat : Int) != 48) = true := by simpa using unhide HN0 (by omega)
          go_wp2_with (at_builtin; refine wpList_append_one _ rfl _ _ 26 rfl w.heap.size 5 i0 .u8 1 Try.underlying26 hi hz0 hz1 hz2 _ _ _ rfl hown _ rfl (by unfold maxLen; omega) (by omega) (by omega) ?_; intro v' wC hown' hbC)
          go_roundw
          case rel =>
            refine ⟨k + 1, by omega, by go_num, by rw [unhide HDC], rfl, rfl, rfl, rfl, rfl, rfl, ?_, hbel.trans hbC⟩
            rw [show k + 1 - sg = m + 1 by omega, unhide HTK, List.map_append, ← unhide HY]
            exact hown'
          case measure => simp [intOf]; omega
        · have mi : (0 : Int) < (m : Int) := by omega
          cases n7 : (((s[k]'hlt).toNat : Int) != 48)
          · go_wp2_with (at_builtin; refine wpList_append_one _ rfl _ _ 26 rfl w.heap.size 5 i0 .u8 1 Try.underlying26 hi hz0 hz1 hz2 _ _ _ rfl hown _ rfl (by unfold maxLen; omega) (by omega) (by omega) ?_; intro v' wC hown' hbC)
            go_roundw
            case rel =>
              refine ⟨k + 1, by omega, by go_num, by rw [unhide HDC], rfl, rfl, rfl, rfl, rfl, rfl, ?_, hbel.trans hbC⟩
              rw [show k + 1 - sg = m + 1 by omega, unhide HTK, List.map_append, ← unhide HY]
              exact hown'
            case measure => simp [intOf]; omega
          · go_wp2_with (at_builtin; refine wpList_append_one _ rfl _ _ 26 rfl w.heap.size 5 i0 .u8 1 Try.underlying26 hi hz0 hz1 hz2 _ _ _ rfl hown _ rfl (by unfold maxLen; omega) (by omega) (by omega) ?_; intro v' wC hown' hbC)
            go_roundw
            case rel =>
              refine ⟨k + 1, by omega, by go_num, by rw [unhide HDC], rfl, rfl, rfl, rfl, rfl, rfl, ?_, hbel.trans hbC⟩
              rw [show k + 1 - sg = m + 1 by omega, unhide HTK, List.map_append, ← unhide HY]
              exact hown'
            case measure => simp [intOf]; omega
    · have ki : ¬ (k : Int) < (s.size : Int) := by omega
      have hkk : k = s.size := by omega
      have hke : k - sg = ds.length := by omega
      rw [hke, List.take_of_length_le (Nat.le_refl _)] at hown
      obtain ⟨aB, cB, rfl⟩ := own_shape hown
      have hcv := row_string (P := Try.prog) ((row_at hown).below (Below.refl _ _).drew) 26 9 5 Try.underlying26 Try.underlying5 Try.underlying9
      have HNk := hide (show flg sg k = ng from by rw [unhide HNG]; exact decide_eq_decide.2 (by omega))
      obtain ⟨B0, hB0⟩ : ∃ B0, B0 = flg sg k := ⟨_, rfl⟩
      rw [← hB0] at HNk
      rw [← hB0]
      clear hown hB0 hkk hke
      go_wp2
      go_region_held3 (fun w' => (convert 26 9 (.slice aB ds.length cB)).run Try.prog w' = .ok (.string (strOfNums ds)) w') (go_keep) (fail)
      all_goals go_wp2
      all_goals go_ret3
      all_goals exact ⟨by rw [unhide HNk]; rfl, hbel.drew⟩
end Go.Proofs.Ytdfdicgfldcngaa.mem
