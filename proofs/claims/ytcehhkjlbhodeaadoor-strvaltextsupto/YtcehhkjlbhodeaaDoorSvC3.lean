import Derived.Test.YtcehhkjlbhodeaaDoorSvC2
namespace Go.Proofs.YtcehhkjlbhodeaaDoor.sv
open Go.ChangeShapes Go.WideShapes Go.ChangeAt Go.RowKit
open mem
open ints (hide unhide soP)
set_option linter.unusedVariables false
def bV (t : Option (List Int)) : Value := match t with | none => .tuple #[.string ⟨#[]⟩, .bool false] | some t => .tuple #[.string (strOfNums ([34, 34, 34] ++ t.flatMap putB ++ [34, 34, 34])), .bool true]
/-- what the lines up to the k-th make -/
def oT (L : List (List Int)) (k : Nat) : List Int := ((L.take k).flatMap (fun x => grd x ++ [10])).flatMap putB
theorem oT_succ (L : List (List Int)) (k : Nat) (h : k < L.length) : oT L (k + 1) = oT L k ++ ((grd (L.getD k [])).flatMap putB ++ [10]) := by
  unfold oT
  rw [take_snoc' L k h, List.flatMap_append, List.flatMap_append]
  simp [putB]
theorem flatp_len (zs : List Int) : (zs.flatMap putB).length ≤ 4 * zs.length := by
  induction zs with
  | nil => simp
  | cons c r ih =>
    have := putB_len c
    simp only [List.flatMap_cons, List.length_append, List.length_cons]
    omega
theorem oT_len (L : List (List Int)) (hm : ∀ i, (L.getD i []).length ≤ 1048576) : ∀ k, k ≤ L.length → (oT L k).length ≤ k * 16777217
  | 0, _ => by simp [oT]
  | k + 1, h => by
    rw [oT_succ L k (by omega)]
    have h1 := oT_len L hm k (by omega)
    have h2 := flatp_len (grd (L.getD k []))
    have h3 := grd_len _ (L.getD k []) (Nat.le_refl _)
    have h4 := hm k
    simp only [List.length_append, List.length_cons, List.length_nil]
    omega
theorem grd_sc (l : List Int) (h : ∀ c ∈ l, scP c) : (grd l).all scB = true := by
  rw [List.all_eq_true]
  intro c hc
  rcases grd_mem l.length l (Nat.le_refl _) c hc with rfl | h2
  · decide
  · exact (scB_iff c).2 (h c h2)
theorem line_sc {zs : List Int} (h : zs.all scB = true) (k : Nat) : ∀ c ∈ (lns zs).getD k [], scP c := by
  intro c hc
  by_cases hk : k < (lns zs).length
  · have hm : (lns zs).getD k [] ∈ lns zs := by simp [List.getD, hk]
    exact (scB_iff c).1 (List.all_eq_true.1 h c (lns_mem zs _ hm c hc))
  · rw [show (lns zs).getD k [] = [] by simp [List.getD, List.getElem?_eq_none (Nat.le_of_not_lt hk)]] at hc
    cases hc
theorem oT_zero (L : List (List Int)) : oT L 0 = [] := by simp [oT]
theorem ins_flat (L : List (List Int)) (hp : pos L = true) : (ins L).flatMap putB = (if L.length = 1 ∧ whB ((L.getD 0 []).getD 0 0) = true then [] else [10]) ++ oT L L.length := by
  unfold oT
  rw [List.take_length]
  cases L with
  | nil => simp [pos] at hp
  | cons x r =>
    have hx : blk x = false := by
      unfold pos at hp
      cases hb : blk x
      · rfl
      · simp [hb] at hp
    cases x with
    | nil => rw [blk_nil] at hx; cases hx
    | cons c y =>
      unfold ins
      by_cases h2 : (((c :: y) :: r).length = 1 ∧ whB c = true)
      · have h3 : (((c :: y) :: r).length == 1 && whB ((((c :: y) :: r).headD []).headD 0)) = true := by
          rw [Bool.and_eq_true]
          exact ⟨beq_iff_eq.2 h2.1, h2.2⟩
        rw [if_pos h3]
        have h4 : ((c :: y) :: r).length = 1 ∧ whB ((((c :: y) :: r).getD 0 []).getD 0 0) = true := h2
        rw [if_pos h4]
        rfl
      · have h3 : ¬ (((c :: y) :: r).length == 1 && whB ((((c :: y) :: r).headD []).headD 0)) = true := by
          intro h3
          rw [Bool.and_eq_true] at h3
          exact h2 ⟨beq_iff_eq.1 h3.1, h3.2⟩
        rw [if_neg h3]
        have h4 : ¬ (((c :: y) :: r).length = 1 ∧ whB ((((c :: y) :: r).getD 0 []).getD 0 0) = true) := h2
        rw [if_neg h4, List.flatMap_cons]
        rfl
theorem pos_first {L : List (List Int)} (hp : pos L = true) : 0 < (L.getD 0 []).length := by
  cases L with
  | nil => simp [pos] at hp
  | cons x r =>
    cases x with
    | nil => simp [pos, blk_nil] at hp
    | cons c y => simp
set_option maxHeartbeats 4000000 in
theorem rbt_no (s : ByteArray) (w : World) (hs : s.size ≤ 1048576) (h : (decZ (bytesZ s)).2 < s.size) :
    Calls Tryd.prog 7 #[.string s] w fun e w' => e = .returned (.tuple #[.string ⟨#[]⟩, .bool false]) ∧ Below w.heap.size w w' := by
  obtain ⟨cap, W2, hc, hr, hb⟩ := conv_bytes s w hs
  have D := hide (rdecode_any _ _ _ _ W2 hr (bytesZ_byt s) (by omega))
  obtain ⟨g, hg⟩ : ∃ g, g = (decZ (bytesZ s)).2 := ⟨_, rfl⟩
  rw [← hg] at h D
  clear hr hg
  go_enter Tryd.func7, Tryd.ntmps7
  go_wp2_with fail
  refine (unhide D).mono ?_
  rintro e w1 ⟨v, rfl, ho, b1⟩
  clear D ho
  go_wp2
  go_ret2
  exact ⟨rfl, hb.trans (b1.mono hb.size)⟩
set_option maxHeartbeats 8000000 in
theorem rbt_yes (s : ByteArray) (w : World) (hs : s.size ≤ 1048576) (zs : List Int) (hall : zs.all scB = true) (hz : zs = (decZ (bytesZ s)).1) (h : (decZ (bytesZ s)).2 = s.size) (hzl : zs.length ≤ s.size) (hemp : s.toList.isEmpty = true ↔ zs = []) :
    Calls Tryd.prog 7 #[.string s] w fun e w' => e = .returned (bV (btx zs)) ∧ Below w.heap.size w w' := by
  obtain ⟨cap, W2, hc, hr, hb⟩ := conv_bytes s w hs
  have D := hide (rdecode_any _ _ _ _ W2 hr (bytesZ_byt s) (by omega))
  rw [h, ← hz] at D
  obtain ⟨R, hR⟩ : ∃ R, R = bV (btx zs) := ⟨_, rfl⟩
  rw [← hR]
  have HR := hide hR
  have HA := hide hall
  have HE := hide hemp
  clear hr hz h hR hall hemp
  go_enter Tryd.func7, Tryd.ntmps7
  go_wp2_with fail
  refine (unhide D).mono ?_
  rintro e w1 ⟨v, rfl, ho, b1⟩
  clear D
  obtain ⟨aC, cC, rfl, hrow⟩ := own_row ho
  clear ho
  have HB1 := hide (hb.trans (b1.mono hb.size))
  clear hb b1
  go_wp2_with fail
  have hl := lines_bd zs
  rw [linesL_eq] at hl
  have HLb := hide hl
  clear hl
  go_loopw [6] (fun i wr => ∃ k : Nat, k ≤ zs.length ∧ i = .int .i64 k ∧ Below w1.heap.size w1 wr ∧ Hid (∀ j, j < k → soP (zs.getD j 0) ∧ zs.getD j 0 ≠ 13)) (fun i _ => zs.length - (intOf i).toNat)
  case atStart => exact ⟨0, Nat.zero_le _, rfl, Below.refl _ _, hide (fun j hj => by omega)⟩
  case round =>
    obtain ⟨k, hk, rfl, hbel, hw⟩ := hrel
    by_cases hlt : k < zs.length
    · rcases hrow.at_ with h0 | ⟨b, off, rfl, hbw, hcell⟩
      · omega
      have hle := hrow.le
      have c1 := (hbel.cell (p := ⟨b, off + k, none⟩) hbw).trans (hcell k hlt)
      obtain ⟨x, hx⟩ : ∃ x, x = zs.getD k 0 := ⟨_, rfl⟩
      rw [← hx] at c1
      have Hx := hide hx
      clear hx hcell
      by_cases hs2 : soP x
      · have S := hide (fun W => ints.rso_yes x W hs2)
        have Hs := hide hs2
        clear hs2
        by_cases h13 : x = 13
        · subst h13
          have e := hide (show R = bV none by rw [unhide HR, btx_fit zs (fit_no zs k hlt (fun hh => hh.2 (unhide Hx).symm))])
          go_wp2_with fail
          refine (unhide S _).mono ?_
          rintro e w2 ⟨rfl, rfl⟩
          go_wp2
          go_ret2
          rw [unhide e]
          exact ⟨rfl, (unhide HB1).trans (hbel.mono (unhide HB1).size)⟩
        · have b13 : (x == 13) = false := by simp [h13]
          go_wp2_with fail
          refine (unhide S _).mono ?_
          rintro e w2 ⟨rfl, rfl⟩
          go_wp2
          refine ⟨⟨k + 1, by omega, rfl, hbel, hide (fun j hj => ?_)⟩, by simp only [intOf]; omega⟩
          by_cases e : j = k
          · subst e; rw [← unhide Hx]; exact ⟨unhide Hs, h13⟩
          · exact unhide hw j (by omega)
      · have S := hide (fun W => ints.rso_no x W hs2)
        have e := hide (show R = bV none by rw [unhide HR, btx_fit zs (fit_no zs k hlt (fun hh => hs2 (by rw [unhide Hx]; exact hh.1)))])
        clear hs2
        go_wp2_with fail
        refine (unhide S _).mono ?_
        rintro e w2 ⟨rfl, rfl⟩
        go_wp2
        go_ret2
        rw [unhide e]
        exact ⟨rfl, (unhide HB1).trans (hbel.mono (unhide HB1).size)⟩
    · obtain rfl : k = zs.length := by omega
      have hf := hide (fit_all zs (fun j hj => unhide hw j hj))
      clear hw
      cases hem : s.toList.isEmpty
      · have hne := hide (show zs ≠ [] by intro e; rw [(unhide HE).2 e] at hem; cases hem)
        have HRow := hide (hrow.below hbel)
        clear hrow
        have HBB := hide ((unhide HB1).trans (hbel.mono (unhide HB1).size))
        clear hbel HB1
        go_wp2_with fail
        refine (rlines_any _ _ _ zs _ (unhide HRow) (by omega)).mono ?_
        rintro e w3 ⟨v, gs, rfl, hat, b3⟩
        rw [linesL_eq] at hat
        obtain ⟨l1, l2, l3⟩ := unhide HLb
        obtain ⟨b, c, rfl, hL⟩ := lns_of hat (by omega)
        clear hat
        have HL := hide hL
        have hlc := hL.le
        clear hL
        have HB3 := hide ((unhide HBB).trans (b3.mono (unhide HBB).size))
        clear b3 HBB
        have K := hide (poss_ok b (lns zs).length c (lns zs) _ (unhide HL) (by omega) (by omega) (fun i => Nat.le_trans (l3 i) (by omega)))
        cases hp : pos (lns zs)
        · rw [hp] at K
          have e := hide (show R = bV none by rw [unhide HR, btx_pos zs (unhide hf) (unhide hne), hp]; rfl)
          clear hp
          go_wp2_with fail
          refine (unhide K).mono ?_
          rintro e w4 ⟨rfl, b4⟩
          have HB4 := hide ((unhide HB3).trans (b4.mono (unhide HB3).size))
          clear b4
          go_wp2
          go_ret2
          rw [unhide e]
          exact ⟨rfl, unhide HB4⟩
        · rw [hp] at K
          have e := hide (show R = bV (some (ins (lns zs))) by rw [unhide HR, btx_pos zs (unhide hf) (unhide hne), hp]; rfl)
          have HP := hide hp
          clear hp
          go_wp2_with fail
          refine (unhide K).mono ?_
          rintro e w4 ⟨rfl, b4⟩
          have HB4 := hide ((unhide HB3).trans (b4.mono (unhide HB3).size))
          have HL4 := hide ((unhide HL).below b4)
          clear b4 HB3 HL K
          have hRV := e
          have HSC := hide (fun k => line_sc (unhide HA) k)
          have HO := hide (oT_len (lns zs) (fun i => Nat.le_trans (l3 i) (by omega)))
          have HIns := hide (ins_flat (lns zs) (unhide HP))
          have HM := hide (fun i => Nat.le_trans (l3 i) (show zs.length ≤ 1048576 by omega))
          have hq0 := hide (pos_first (unhide HP))
          clear e HRow HLb hf hne l3
          obtain ⟨L, hL0⟩ : ∃ L, L = lns zs := ⟨_, rfl⟩
          rw [← hL0] at hRV HSC HO HIns HM HL4 HP l1 l2 hlc hq0 ⊢
          clear hL0
          obtain ⟨n, hn0⟩ : ∃ n, n = L.length := ⟨_, rfl⟩
          rw [← hn0] at HO HIns HL4 l1 l2 hlc ⊢
          have HN := hide hn0.symm
          clear hn0
          by_cases h1 : n = 1
          · obtain ⟨a1, c1, g1, r1⟩ := (unhide HL4).at_ 0 (by omega)
            have hq := unhide hq0
            have hm0 := unhide HM 0
            rcases r1.at_ with h0 | ⟨b1, o1, rfl, hbw1, hcell1⟩
            · omega
            have x1 := hcell1 0 hq
            have hle1 := r1.le
            obtain ⟨q, hqq⟩ : ∃ q, q = (L.getD 0 []).length := ⟨_, rfl⟩
            rw [← hqq] at g1 hq hm0 hle1
            obtain ⟨x, hx⟩ : ∃ x, x = (L.getD 0 []).getD 0 0 := ⟨_, rfl⟩
            rw [← hx] at x1 HIns
            rw [Nat.add_zero] at x1
            have W := hide (fun W => white_ok x W)
            have h11 : ¬ (1 : Int) < (n : Int) := by omega
            have HN1 := hide h1
            clear hqq hx r1 hcell1 h1
            cases hwb : whB x
            · rw [hwb] at W HIns
              clear hwb
              have HI := hide (show (ins L).flatMap putB = [10] ++ oT L n by rw [unhide HIns, if_neg (fun h => by cases h.2)])
              have HS := hide (show (⟨#[34, 34, 34]⟩ : ByteArray) ++ ⟨#[10]⟩ = strOfNums ([34, 34, 34, 10] ++ oT L 0) by rw [oT_zero]; decide +kernel)
              clear HIns
              go_wp2_with fail
              refine (unhide W _).mono ?_
              rintro e w' ⟨rfl, rfl⟩
              go_wp2_with fail
              clear x1 g1
              go_loopw [11, 12] (fun v i wr => ∃ k : Nat, k ≤ n ∧ i = .int .i64 k ∧ v = .string (strOfNums ([34, 34, 34, 10] ++ oT L k)) ∧ Below w'.heap.size w' wr) (fun _ i _ => n - (intOf i).toNat)
              case atStart => exact ⟨0, Nat.zero_le _, rfl, by rw [unhide HS], Below.refl _ _⟩
              case round =>
                obtain ⟨k, hk, rfl, rfl, hbel⟩ := hrel
                have hol := unhide HO k hk
                have hss : (strOfNums ([34, 34, 34, 10] ++ oT L k)).size = ([34, 34, 34, 10] ++ oT L k).length := strOfNums_size _
                rw [List.length_append, show ([34, 34, 34, 10] : List Int).length = 4 from rfl] at hss
                by_cases hlt : k < n
                · obtain ⟨ai, ci, g1, r1⟩ := ((unhide HL4).below hbel).at_ k hlt
                  have hmk := unhide HM k
                  have G := hide (guard_ok ai _ ci _ _ r1 (by omega))
                  have hE1 := hide (encS_yes (grd_sc _ (unhide HSC k)))
                  have hgl := grd_len _ (L.getD k []) (Nat.le_refl _)
                  have hfl := flatp_len (grd (L.getD k []))
                  have hsu := hide (oT_succ L k (by rw [unhide HN]; exact hlt))
                  obtain ⟨q, hq⟩ : ∃ q, q = (L.getD k []).length := ⟨_, rfl⟩
                  rw [← hq] at g1 G hmk hgl
                  obtain ⟨g, hg⟩ : ∃ g, g = grd (L.getD k []) := ⟨_, rfl⟩
                  rw [← hg] at G hE1 hgl hfl hsu
                  have hTs : (strOfNums (g.flatMap putB)).size = (g.flatMap putB).length := strOfNums_size _
                  have hnext := hide (show strOfNums ([34, 34, 34, 10] ++ oT L (k + 1)) = strOfNums ([34, 34, 34, 10] ++ oT L k) ++ strOfNums (g.flatMap putB) ++ ⟨#[10]⟩ by
                    rw [show (⟨#[10]⟩ : ByteArray) = strOfNums [10] from rfl, str_add, str_add, unhide hsu]; simp)
                  obtain ⟨S, hS⟩ : ∃ S, S = strOfNums ([34, 34, 34, 10] ++ oT L k) := ⟨_, rfl⟩
                  rw [← hS] at hss hnext ⊢
                  obtain ⟨T, hT⟩ : ∃ T, T = strOfNums (g.flatMap putB) := ⟨_, rfl⟩
                  rw [← hT] at hTs hnext hE1
                  have hTb : T.size ≤ 16777216 := by omega
                  have hSb : S.size ≤ 17592204722185 := by omega
                  clear hTs hss hfl hol
                  clear hq hg hsu hS hT r1
                  have hsz := hbel.size
                  have HBl := hide hbel
                  clear hbel
                  go_wp2_with fail
                  refine (unhide G).mono ?_
                  rintro e w5 ⟨v, rfl, ho, b5⟩
                  obtain ⟨aG, cG, rfl, hrG⟩ := own_row ho
                  have E := hide (rencode_any _ _ _ _ _ hrG (by omega))
                  rw [unhide hE1] at E
                  have HB5 := hide ((unhide HBl).trans (b5.mono hsz))
                  clear G ho hrG b5 HBl
                  go_wp2_with fail
                  refine (unhide E).mono ?_
                  rintro e w6 ⟨rfl, b6⟩
                  have HB6 := hide ((unhide HB5).trans (b6.mono (unhide HB5).size))
                  clear E b6 HB5
                  go_wp2
                  refine ⟨⟨k + 1, by omega, rfl, by rw [unhide hnext], unhide HB6⟩, by simp only [intOf]; omega⟩
                · obtain rfl : k = n := by omega
                  have hfin := hide (show R = .tuple #[.string (strOfNums ([34, 34, 34, 10] ++ oT L k) ++ ⟨#[34, 34, 34]⟩), .bool true] by
                    rw [unhide hRV]
                    unfold bV
                    simp only
                    rw [unhide HI, show (⟨#[34, 34, 34]⟩ : ByteArray) = strOfNums [34, 34, 34] from rfl, str_add]
                    try simp)
                  obtain ⟨S, hS⟩ : ∃ S, S = strOfNums ([34, 34, 34, 10] ++ oT L k) := ⟨_, rfl⟩
                  rw [← hS] at hss hfin ⊢
                  have hSb : S.size ≤ 17592204722185 := by omega
                  clear hss hol
                  clear hS
                  go_wp2
                  go_ret2
                  rw [unhide hfin]
                  exact ⟨rfl, (unhide HB4).trans (hbel.mono (unhide HB4).size)⟩
            · rw [hwb] at W HIns
              clear hwb
              have HI := hide (show (ins L).flatMap putB = oT L n by rw [unhide HIns, if_pos ⟨unhide HN1, rfl⟩]; rfl)
              have HS := hide (show (⟨#[34, 34, 34]⟩ : ByteArray) = strOfNums ([34, 34, 34] ++ oT L 0) by rw [oT_zero]; decide +kernel)
              clear HIns
              go_wp2_with fail
              refine (unhide W _).mono ?_
              rintro e w' ⟨rfl, rfl⟩
              go_wp2_with fail
              clear x1 g1
              go_loopw [11, 12] (fun v i wr => ∃ k : Nat, k ≤ n ∧ i = .int .i64 k ∧ v = .string (strOfNums ([34, 34, 34] ++ oT L k)) ∧ Below w'.heap.size w' wr) (fun _ i _ => n - (intOf i).toNat)
              case atStart => exact ⟨0, Nat.zero_le _, rfl, by rw [unhide HS], Below.refl _ _⟩
              case round =>
                obtain ⟨k, hk, rfl, rfl, hbel⟩ := hrel
                have hol := unhide HO k hk
                have hss : (strOfNums ([34, 34, 34] ++ oT L k)).size = ([34, 34, 34] ++ oT L k).length := strOfNums_size _
                rw [List.length_append, show ([34, 34, 34] : List Int).length = 3 from rfl] at hss
                by_cases hlt : k < n
                · obtain ⟨ai, ci, g1, r1⟩ := ((unhide HL4).below hbel).at_ k hlt
                  have hmk := unhide HM k
                  have G := hide (guard_ok ai _ ci _ _ r1 (by omega))
                  have hE1 := hide (encS_yes (grd_sc _ (unhide HSC k)))
                  have hgl := grd_len _ (L.getD k []) (Nat.le_refl _)
                  have hfl := flatp_len (grd (L.getD k []))
                  have hsu := hide (oT_succ L k (by rw [unhide HN]; exact hlt))
                  obtain ⟨q, hq⟩ : ∃ q, q = (L.getD k []).length := ⟨_, rfl⟩
                  rw [← hq] at g1 G hmk hgl
                  obtain ⟨g, hg⟩ : ∃ g, g = grd (L.getD k []) := ⟨_, rfl⟩
                  rw [← hg] at G hE1 hgl hfl hsu
                  have hTs : (strOfNums (g.flatMap putB)).size = (g.flatMap putB).length := strOfNums_size _
                  have hnext := hide (show strOfNums ([34, 34, 34] ++ oT L (k + 1)) = strOfNums ([34, 34, 34] ++ oT L k) ++ strOfNums (g.flatMap putB) ++ ⟨#[10]⟩ by
                    rw [show (⟨#[10]⟩ : ByteArray) = strOfNums [10] from rfl, str_add, str_add, unhide hsu]; simp)
                  obtain ⟨S, hS⟩ : ∃ S, S = strOfNums ([34, 34, 34] ++ oT L k) := ⟨_, rfl⟩
                  rw [← hS] at hss hnext ⊢
                  obtain ⟨T, hT⟩ : ∃ T, T = strOfNums (g.flatMap putB) := ⟨_, rfl⟩
                  rw [← hT] at hTs hnext hE1
                  have hTb : T.size ≤ 16777216 := by omega
                  have hSb : S.size ≤ 17592204722185 := by omega
                  clear hTs hss hfl hol
                  clear hq hg hsu hS hT r1
                  have hsz := hbel.size
                  have HBl := hide hbel
                  clear hbel
                  go_wp2_with fail
                  refine (unhide G).mono ?_
                  rintro e w5 ⟨v, rfl, ho, b5⟩
                  obtain ⟨aG, cG, rfl, hrG⟩ := own_row ho
                  have E := hide (rencode_any _ _ _ _ _ hrG (by omega))
                  rw [unhide hE1] at E
                  have HB5 := hide ((unhide HBl).trans (b5.mono hsz))
                  clear G ho hrG b5 HBl
                  go_wp2_with fail
                  refine (unhide E).mono ?_
                  rintro e w6 ⟨rfl, b6⟩
                  have HB6 := hide ((unhide HB5).trans (b6.mono (unhide HB5).size))
                  clear E b6 HB5
                  go_wp2
                  refine ⟨⟨k + 1, by omega, rfl, by rw [unhide hnext], unhide HB6⟩, by simp only [intOf]; omega⟩
                · obtain rfl : k = n := by omega
                  have hfin := hide (show R = .tuple #[.string (strOfNums ([34, 34, 34] ++ oT L k) ++ ⟨#[34, 34, 34]⟩), .bool true] by
                    rw [unhide hRV]
                    unfold bV
                    simp only
                    rw [unhide HI, show (⟨#[34, 34, 34]⟩ : ByteArray) = strOfNums [34, 34, 34] from rfl, str_add]
                    try simp)
                  obtain ⟨S, hS⟩ : ∃ S, S = strOfNums ([34, 34, 34] ++ oT L k) := ⟨_, rfl⟩
                  rw [← hS] at hss hfin ⊢
                  have hSb : S.size ≤ 17592204722185 := by omega
                  clear hss hol
                  clear hS
                  go_wp2
                  go_ret2
                  rw [unhide hfin]
                  exact ⟨rfl, (unhide HB4).trans (hbel.mono (unhide HB4).size)⟩
          · have h11 : (1 : Int) < (n : Int) := by omega
            have HI := hide (show (ins L).flatMap putB = [10] ++ oT L n by rw [unhide HIns, if_neg (fun h => h1 h.1)])
            have HS := hide (show (⟨#[34, 34, 34]⟩ : ByteArray) ++ ⟨#[10]⟩ = strOfNums ([34, 34, 34, 10] ++ oT L 0) by rw [oT_zero]; decide +kernel)
            clear HIns h1
            go_wp2_with fail
            go_loopw [11, 12] (fun v i wr => ∃ k : Nat, k ≤ n ∧ i = .int .i64 k ∧ v = .string (strOfNums ([34, 34, 34, 10] ++ oT L k)) ∧ Below w4.heap.size w4 wr) (fun _ i _ => n - (intOf i).toNat)
            case atStart => exact ⟨0, Nat.zero_le _, rfl, by rw [unhide HS], Below.refl _ _⟩
            case round =>
              obtain ⟨k, hk, rfl, rfl, hbel⟩ := hrel
              have hol := unhide HO k hk
              have hss : (strOfNums ([34, 34, 34, 10] ++ oT L k)).size = ([34, 34, 34, 10] ++ oT L k).length := strOfNums_size _
              rw [List.length_append, show ([34, 34, 34, 10] : List Int).length = 4 from rfl] at hss
              by_cases hlt : k < n
              · obtain ⟨ai, ci, g1, r1⟩ := ((unhide HL4).below hbel).at_ k hlt
                have hmk := unhide HM k
                have G := hide (guard_ok ai _ ci _ _ r1 (by omega))
                have hE1 := hide (encS_yes (grd_sc _ (unhide HSC k)))
                have hgl := grd_len _ (L.getD k []) (Nat.le_refl _)
                have hfl := flatp_len (grd (L.getD k []))
                have hsu := hide (oT_succ L k (by rw [unhide HN]; exact hlt))
                obtain ⟨q, hq⟩ : ∃ q, q = (L.getD k []).length := ⟨_, rfl⟩
                rw [← hq] at g1 G hmk hgl
                obtain ⟨g, hg⟩ : ∃ g, g = grd (L.getD k []) := ⟨_, rfl⟩
                rw [← hg] at G hE1 hgl hfl hsu
                have hTs : (strOfNums (g.flatMap putB)).size = (g.flatMap putB).length := strOfNums_size _
                have hnext := hide (show strOfNums ([34, 34, 34, 10] ++ oT L (k + 1)) = strOfNums ([34, 34, 34, 10] ++ oT L k) ++ strOfNums (g.flatMap putB) ++ ⟨#[10]⟩ by
                  rw [show (⟨#[10]⟩ : ByteArray) = strOfNums [10] from rfl, str_add, str_add, unhide hsu]; simp)
                obtain ⟨S, hS⟩ : ∃ S, S = strOfNums ([34, 34, 34, 10] ++ oT L k) := ⟨_, rfl⟩
                rw [← hS] at hss hnext ⊢
                obtain ⟨T, hT⟩ : ∃ T, T = strOfNums (g.flatMap putB) := ⟨_, rfl⟩
                rw [← hT] at hTs hnext hE1
                have hTb : T.size ≤ 16777216 := by omega
                have hSb : S.size ≤ 17592204722185 := by omega
                clear hTs hss hfl hol
                clear hq hg hsu hS hT r1
                have hsz := hbel.size
                have HBl := hide hbel
                clear hbel
                go_wp2_with fail
                refine (unhide G).mono ?_
                rintro e w5 ⟨v, rfl, ho, b5⟩
                obtain ⟨aG, cG, rfl, hrG⟩ := own_row ho
                have E := hide (rencode_any _ _ _ _ _ hrG (by omega))
                rw [unhide hE1] at E
                have HB5 := hide ((unhide HBl).trans (b5.mono hsz))
                clear G ho hrG b5 HBl
                go_wp2_with fail
                refine (unhide E).mono ?_
                rintro e w6 ⟨rfl, b6⟩
                have HB6 := hide ((unhide HB5).trans (b6.mono (unhide HB5).size))
                clear E b6 HB5
                go_wp2
                refine ⟨⟨k + 1, by omega, rfl, by rw [unhide hnext], unhide HB6⟩, by simp only [intOf]; omega⟩
              · obtain rfl : k = n := by omega
                have hfin := hide (show R = .tuple #[.string (strOfNums ([34, 34, 34, 10] ++ oT L k) ++ ⟨#[34, 34, 34]⟩), .bool true] by
                  rw [unhide hRV]
                  unfold bV
                  simp only
                  rw [unhide HI, show (⟨#[34, 34, 34]⟩ : ByteArray) = strOfNums [34, 34, 34] from rfl, str_add]
                  try simp)
                obtain ⟨S, hS⟩ : ∃ S, S = strOfNums ([34, 34, 34, 10] ++ oT L k) := ⟨_, rfl⟩
                rw [← hS] at hss hfin ⊢
                have hSb : S.size ≤ 17592204722185 := by omega
                clear hss hol
                clear hS
                go_wp2
                go_ret2
                rw [unhide hfin]
                exact ⟨rfl, (unhide HB4).trans (hbel.mono (unhide HB4).size)⟩
      · have e := hide (show R = bV (some []) by rw [unhide HR, (unhide HE).1 hem]; rfl)
        go_wp2
        go_ret2
        rw [unhide e]
        exact ⟨rfl, (unhide HB1).trans (hbel.mono (unhide HB1).size)⟩
theorem bV_eq (s : ByteArray) (h : cln s = true) : bV (btx (decZ (bytesZ s)).1) = .tuple #[.string (bS s), .bool (bO s)] := by
  unfold bS bO bT bV
  rw [if_pos h]
  cases btx (decZ (bytesZ s)).1 <;> rfl
theorem rbt_ok (s : ByteArray) (w : World) (hs : s.size ≤ 1048576) :
    Calls Tryd.prog 7 #[.string s] w fun e w' => e = .returned (.tuple #[.string (bS s), .bool (bO s)]) ∧ Below w.heap.size w w' := by
  cases h : cln s
  · have hT : bT s = none := by unfold bT; rw [h]; rfl
    unfold bS bO
    rw [hT]
    exact rbt_no s w hs (cln_no h)
  · have hl := decZ_len (bytesZ s) (bytesZ_byt s)
    rw [cln_yes h] at hl
    obtain ⟨f1, f2⟩ := cln_flat s h
    rw [← bV_eq s h]
    refine rbt_yes s w hs _ f1 rfl (cln_yes h) hl ?_
    rw [ByteArray.toList_eq, List.isEmpty_iff]
    constructor
    · intro e
      have hb : bytesZ s = [] := by unfold bytesZ; rw [e]; rfl
      rw [hb]
      rfl
    · intro e
      rw [e] at f2
      have h0 : s.size = 0 := by rw [← bytesZ_len, f2]; rfl
      exact List.eq_nil_of_length_eq_zero (by rw [Array.length_toList]; exact h0)
end Go.Proofs.YtcehhkjlbhodeaaDoor.sv
