import Derived.Test.YtcehhkjlbhodeaaDoorPlcL
namespace Go.Proofs.YtcehhkjlbhodeaaDoor.mem
open Go.ChangeShapes Go.WideShapes Go.ChangeAt Go.RowKit
open ints (hide unhide)
set_option linter.unusedVariables false

def sN (S : List Int) (k : Nat) : Nat := (S.getD k 0).toNat
theorem sN_left (S : List Int) (x : Int) (k : Nat) (h : k < S.length) : sN (S ++ [x]) k = sN S k := by simp [sN, List.getD, List.getElem?_append_left h]
theorem lin_sta (l : List Int) (m : Nat) : (linesTo l m).2 = sN (staTo l m) ((staTo l m).length - 1) ∧ (linesTo l m).1.length + 1 = (staTo l m).length ∧
    ∀ k, k + 1 < (staTo l m).length → (linesTo l m).1.getD k [] = cut l (sN (staTo l m) k) (toOf l (sN (staTo l m) (k + 1) - 1)) ∧ sN (staTo l m) k ≤ toOf l (sN (staTo l m) (k + 1) - 1) ∧ 1 ≤ sN (staTo l m) (k + 1) ∧ sN (staTo l m) (k + 1) ≤ m := by
  induction m with
  | zero => refine ⟨rfl, rfl, ?_⟩; intro k hk; simp [staTo] at hk
  | succ m ih =>
    obtain ⟨i1, i2, i3⟩ := ih
    have hft := from_to l m
    have hpos := staTo_pos l m
    cases he : enB l m
    · rw [linesTo_no he, staTo_no he]
      refine ⟨i1, i2, fun k hk => ?_⟩
      obtain ⟨a1, a2, a3, a4⟩ := i3 k hk
      exact ⟨a1, a2, a3, by omega⟩
    · rw [linesTo_yes he, staTo_yes he]
      have hlast : sN (staTo l m ++ [(m : Int) + 1]) (staTo l m).length = m + 1 := by simp [sN, List.getD]
      refine ⟨?_, by simp; omega, fun k hk => ?_⟩
      · simp only [List.length_append, List.length_singleton, Nat.add_sub_cancel]
        exact hlast.symm
      · rw [List.length_append, List.length_singleton] at hk
        by_cases hk1 : k + 1 < (staTo l m).length
        · obtain ⟨a1, a2, a3, a4⟩ := i3 k hk1
          have e1 : ((linesTo l m).1 ++ [cut l (linesTo l m).2 (toOf l m)]).getD k [] = (linesTo l m).1.getD k [] := by
            simp [List.getD, List.getElem?_append_left (show k < (linesTo l m).1.length by omega)]
          simp only
          rw [e1, sN_left _ _ _ (by omega), sN_left _ _ _ hk1]
          exact ⟨a1, a2, a3, by omega⟩
        · have ek : k + 1 = (staTo l m).length := by omega
          have ek2 : k = (linesTo l m).1.length := by omega
          have ek3 : k = (staTo l m).length - 1 := by omega
          have e1 : ((linesTo l m).1 ++ [cut l (linesTo l m).2 (toOf l m)]).getD k [] = cut l (linesTo l m).2 (toOf l m) := by
            rw [ek2]; simp [List.getD]
          simp only
          rw [e1, sN_left _ _ _ (by omega), ek, hlast, Nat.add_sub_cancel, ek3, ← i1]
          exact ⟨rfl, hft.1, by omega, by omega⟩
theorem linesL_len (l : List Int) : (linesL l).length = (staTo l l.length).length := by
  have := (lin_sta l l.length).2.1
  unfold linesL
  rw [List.length_append, List.length_singleton]
  exact this
theorem linesL_in (l : List Int) (k : Nat) (hk : k + 1 < (staTo l l.length).length) : (linesL l).getD k [] = cut l (sN (staTo l l.length) k) (toOf l (sN (staTo l l.length) (k + 1) - 1)) := by
  have h := lin_sta l l.length
  unfold linesL
  rw [← (h.2.2 k hk).1]
  simp [List.getD, List.getElem?_append_left (show k < (linesTo l l.length).1.length by omega)]
theorem linesL_last (l : List Int) (k : Nat) (hk : k + 1 = (staTo l l.length).length) : (linesL l).getD k [] = cut l (sN (staTo l l.length) k) l.length := by
  have h := lin_sta l l.length
  unfold linesL
  have ek : k = (linesTo l l.length).1.length := by omega
  have e2 : k = (staTo l l.length).length - 1 := by omega
  have : ((linesTo l l.length).1 ++ [l.drop (linesTo l l.length).2]).getD k [] = l.drop (linesTo l l.length).2 := by rw [ek]; simp [List.getD]
  rw [this, h.1, ← e2]
  unfold cut
  rw [List.take_of_length_le (by simp)]
theorem toOf_ref (l : List Int) (sk e : Nat) (he : e < l.length) (hle : sk ≤ toOf l e) : toOf l e = if (l.getD e 0 == 10) = true ∧ sk < e ∧ (l.getD (e - 1) 0 == 13) = true then e - 1 else e := by
  unfold toOf at hle ⊢
  by_cases h : 1 ≤ e ∧ prB l (e - 1) = true
  · rw [if_pos h] at hle ⊢
    have h2 := h.2
    simp only [prB, Bool.and_eq_true] at h2
    rw [show e - 1 + 1 = e from by omega] at h2
    rw [if_pos ⟨h2.2, by omega, h2.1.2⟩]
  · rw [if_neg h]
    rw [if_neg]
    rintro ⟨h1, h2, h3⟩
    apply h
    refine ⟨by omega, ?_⟩
    simp only [prB, Bool.and_eq_true]
    rw [show e - 1 + 1 = e from by omega]
    exact ⟨⟨by simpa using he, h3⟩, h1⟩
theorem kept2 {w w2 : World} {base : Nat} {e1 e2 : TypeId} {s2 : Nat} {v v1 : Value} {n m : Nat} {xs ys : List Value} {o : Obj} (hne : e1 ≠ e2) (h : w.ownsRow base e1 1 v1 n xs) (hp : w.ownsRow base e2 s2 v m ys) (hg : (w.alloc o).grownBy w2 v.ownBlock) : w2.ownsRow base e1 1 v1 n xs := by
  refine (h.alloc o).kept hg ?_
  cases hv : v1.ownBlock with
  | none => exact .inl rfl
  | some g =>
    refine .inr (fun e => ?_)
    rcases hp.2 with ⟨rfl, _⟩ | ⟨g2, cap2, cur2, rfl, _, hh2, _⟩
    · cases e
    · obtain rfl := Option.some.inj e
      rcases h.2 with ⟨rfl, _⟩ | ⟨g', cap', cur', rfl, _, hh, _⟩
      · cases hv
      · obtain rfl := Option.some.inj hv
        rw [hh2] at hh
        simp at hh
        exact hne hh.2.symm
set_option maxHeartbeats 8000000 in
theorem rlines_any (a : Option Addr) (n c : Nat) (l : List Int) (w : World) (h : Row .i32 w a n c l) (hn : n ≤ 1099511627776) :
    Calls Tryd.prog 21 #[.slice a n c] w fun e w' => ∃ v gs, e = .returned v ∧ LinesAt w' w.heap.size v gs (linesL l) ∧ Below w.heap.size w w' := by
  obtain ⟨i0, hi, hz0, hz1, hz2⟩ := info_parts infoSl
  obtain ⟨j0, hj, hy0, hy1, hy2⟩ := info_parts info32
  have hpp := staTo_pos l n
  have HLn := hide h.len
  have HLL := hide (linesL_len l)
  obtain ⟨S, hS⟩ : ∃ S, S = staTo l n := ⟨_, rfl⟩
  have HS := hide hS
  rw [← hS] at hpp
  have ST := hide (starts_any a n c l w h hn)
  rw [← hS] at ST
  clear hS
  go_enter Tryd.func21, Tryd.ntmps21
  go_wp2_with fail
  refine (unhide ST).mono ?_
  rintro e w1 ⟨v1, rfl, ho1, hb1⟩
  obtain ⟨a1, c1, e1', _⟩ := own_row ho1
  subst e1'
  clear ST
  go_wp2
  go_loopw [3, 5] (fun v i wr => ∃ (k : Nat) (gs : List Nat), k ≤ S.length ∧ i = .int .i64 k ∧ LinesAt wr w.heap.size v gs ((linesL l).take k) ∧ wr.ownsRow w.heap.size 3 1 (.slice a1 S.length c1) S.length (S.map (Value.int .i64)) ∧ Below w.heap.size w wr) (fun _ i _ => S.length - (intOf i).toNat)
  case atStart => exact ⟨0, [], Nat.zero_le _, rfl, linesNil _ _, ho1, hb1⟩
  case round =>
    obtain ⟨k, gs, hk, rfl, hat, hso, hbel⟩ := hrel
    clear ho1 hb1
    by_cases hlt : k < S.length
    · have hkl : k < (linesL l).length := by rw [unhide HLL, unhide HLn, ← unhide HS]; exact hlt
      have htk : (linesL l).take (k + 1) = (linesL l).take k ++ [(linesL l).getD k []] := by
        rw [List.take_succ_eq_append_getElem hkl]; simp [List.getD, hkl]
      have hLk : ((linesL l).take k).length ≤ k := by simp; omega
      obtain ⟨LT, hLT⟩ : ∃ LT, LT = (linesL l).take k := ⟨_, rfl⟩
      rw [← hLT] at hat htk hLk
      rcases (row_at hso).at_ with h0 | ⟨b, off, e1, hbw, hcell⟩
      · omega
      subst e1
      have hck := hcell k hlt
      have hmem : S.getD k 0 ∈ staTo l n := by rw [unhide HS]; rw [unhide HS] at hlt; simp [List.getD, hlt]
      have hsb := sta_le l n _ hmem
      obtain ⟨sk, hsk⟩ : ∃ sk, sk = sN S k := ⟨_, rfl⟩
      have hski : S.getD k 0 = (sk : Int) := by rw [hsk]; unfold sN; omega
      rw [hski] at hck hsb
      have hskn : sk ≤ n := by omega
      have hkS : (k : Int) < (S.length : Int) := by omega
      have hle := h.le
      by_cases hk1 : k + 1 < S.length
      · have hls := (lin_sta l n).2.2 k (by rw [← unhide HS]; exact hk1)
        have hin := linesL_in l k (by rw [unhide HLn, ← unhide HS]; exact hk1)
        rw [unhide HLn, ← unhide HS, ← hsk] at hin
        rw [← unhide HS, ← hsk] at hls
        obtain ⟨_, g2, g3, g4⟩ := hls
        obtain ⟨e, he⟩ : ∃ e, e = sN S (k + 1) - 1 := ⟨_, rfl⟩
        rw [← he] at hin g2
        have hck1 := hcell (k + 1) hk1
        have hmem1 : S.getD (k + 1) 0 ∈ staTo l n := by rw [unhide HS]; rw [unhide HS] at hk1; simp [List.getD, hk1]
        have hsb1 := sta_le l n _ hmem1
        have hs1 : S.getD (k + 1) 0 = (e : Int) + 1 := by rw [he]; unfold sN at *; omega
        rw [hs1] at hck1
        have hen : e < n := by omega
        have href := toOf_ref l sk e (by rw [unhide HLn]; exact hen) g2
        rcases h.at_ with h0 | ⟨cb, co, rfl, cbw, ccell⟩
        · omega
        have hce := (hbel.cell (p := ⟨cb, co + e, none⟩) cbw).trans (ccell e hen)
        have hce1 := (hbel.cell (p := ⟨cb, co + (e - 1), none⟩) cbw).trans (ccell (e - 1) (by omega))
        have HSUB := hide (fun (t : Nat) (h1 : sk ≤ t) (h2 : t ≤ n) (wx : World) (hwx : Below wr.heap.size wr wx) => (Row.sub (k := .i32) (w := wr) (b := cb) (off := co) (c := c) (unhide HLn) hle h1 h2 (Nat.lt_of_lt_of_le cbw hbel.size) (fun i hi => (hbel.cell (p := ⟨cb, co + i, none⟩) cbw).trans (ccell i hi))).below hwx)
        have hcne : ¬ c = sk := by
          unfold toOf at g2
          split at g2 <;> omega
        obtain ⟨x, hx⟩ : ∃ x, x = l.getD e 0 := ⟨_, rfl⟩
        obtain ⟨y, hy⟩ : ∃ y, y = l.getD (e - 1) 0 := ⟨_, rfl⟩
        rw [← hx] at hce href
        rw [← hy] at hce1 href
        have hk1i : (k : Int) + 1 < (S.length : Int) := by omega
        have hske : sk ≤ e := by
          unfold toOf at g2
          split at g2 <;> omega
        have Htk := hide htk
        have Hin := hide hin
        have Href := hide href
        clear hcell ccell hx hy hs1 hmem hmem1 hsb1 hsb hski hsk he g2 g3 g4 htk hin href hLT
        cases e10 : (x == 10)
        · have HT := hide (show toOf l e = e from by rw [unhide Href, e10]; simp)
          have Hline := hide (show (linesL l).take (k + 1) = LT ++ [cut l sk e] from by rw [unhide Htk, unhide Hin, unhide HT])
          have hTs : sk ≤ e := by omega
          have hTn : e ≤ n := by omega
          have hcl := cut_len l sk (e) (by rw [unhide HLn]; omega)
          have Hcl := hide hcl
          have hl1 : ((cut l sk (e)).map (Value.int .i32)).length = (e - sk) * 1 := by rw [List.length_map, unhide Hcl, Nat.mul_one]
          have HRW := hide (show ∀ wx, Below wr.heap.size wr wx → Row .i32 wx (some ⟨cb, co + sk, none⟩) (e - sk) (c - sk) (cut l sk (e)) from fun wx hwx => unhide HSUB e hTs hTn wx hwx)
          have hown0 := hat.own
          have HL1 := hide hl1
          clear hcl hl1
          go_wp2_with (first
            | (refine wpList_make_own _ rfl _ _ 37 rfl wr.heap.size 21 j0 (.int .i32 0) 1 Tryd.underlying37 hj hy0 hy1 .i64 .i64 _ (e - sk) rfl rfl (by omega) (by rw [hy2]; omega) (by unfold maxLen; omega) (Nat.le_refl _) ?_; intro w2 hmk hgr2; have hb2 := belowNone hgr2; obtain hck2 := (hb2.cell (p := ⟨b, off + k, none⟩) hbw).trans hck)
            | (at_builtin; refine wpList_append_fits_any _ rfl (.tmp 59) (.tmp 66) 37 rfl wr.heap.size 21 j0 1 Tryd.underlying37 hj hy1 wr.heap.size 0 (e - sk) [] rfl hmk (some ⟨cb, co + sk, none⟩) (e - sk) (c - sk) ((cut l sk (e)).map (Value.int .i32)) rfl (unhide HL1) (fun e => by cases e) (unhide HRW w2 hb2).cells (ints_oneCell _ _) (by omega) ?_; intro w3 hln3 hgr3; simp only [Nat.zero_add, List.nil_append] at hln3; have hb3 := hb2.grown hgr3 (Nat.le_trans (Nat.le_refl _) hb2.size) (fun x hx => by obtain rfl := Option.some.inj hx; exact Nat.le_refl _); have hown3 := own_below hat.own hb3; have hck3 := (hb3.cell (p := ⟨b, off + k, none⟩) hbw).trans hck)
            | (at_builtin; refine wpList_append_own _ rfl (.tmp 68) (.tmp 70) 43 rfl w.heap.size 37 i0 (.slice none 0 0) 1 24 Tryd.underlying43 hi hz0 hz1 hz2 rfl (by decide) _ _ _ rfl (hown3.alloc _) ⟨w3.heap.size, 0, none⟩ 1 1 [.slice (some ⟨wr.heap.size, 0, none⟩) (e - sk) (e - sk)] rfl rfl (cellv _ _ _) (one_val _ rfl) (by unfold maxLen; omega) (by omega) (by have := Nat.le_trans hbel.size hb3.size; simp; omega) ?_; intro v' w4 hown4 hgr4 _))
          go_roundw
          case rel =>
            have e3 : Value.slice (some ⟨wr.heap.size, 0, none⟩) (e - sk) (e - sk) = lineVal wr.heap.size (cut l sk (e)) := by unfold lineVal; rw [unhide Hcl]
            have hl2 : w3.ownsRow w.heap.size 21 1 (lineVal wr.heap.size (cut l sk (e))) (cut l sk (e)).length ((cut l sk (e)).map (Value.int .i32)) := by
              unfold lineVal
              rw [unhide Hcl]
              exact own_lo hln3 hbel.size
            rw [e3] at hown4
            have R := hat.snoc rfl hb3 hl2 hown4 hgr4
            have hb4 : Below w.heap.size w w4 := ((hbel.trans (hb3.mono hbel.size)).alloc (Nat.le_trans hbel.size hb3.size) _).grown hgr4 (by have := Nat.le_trans hbel.size hb3.size; simp; omega) (fun k hk => (hown3.lt k hk).1)
            refine ⟨k + 1, gs ++ [wr.heap.size], by omega, by go_num, ?_, kept2 (by decide) (own_below hso hb3) hown3 hgr4, hb4⟩
            rw [unhide Hline]
            exact R
          case measure => simp [intOf]; omega
        · by_cases hgt : sk < e
          · have hgi : (sk : Int) < (e : Int) := by omega
            cases e13 : (y == 13)
            · have HT := hide (show toOf l e = e from by rw [unhide Href, e13]; simp)
              have Hline := hide (show (linesL l).take (k + 1) = LT ++ [cut l sk e] from by rw [unhide Htk, unhide Hin, unhide HT])
              have hTs : sk ≤ e := by omega
              have hTn : e ≤ n := by omega
              have hcl := cut_len l sk (e) (by rw [unhide HLn]; omega)
              have Hcl := hide hcl
              have hl1 : ((cut l sk (e)).map (Value.int .i32)).length = (e - sk) * 1 := by rw [List.length_map, unhide Hcl, Nat.mul_one]
              have HRW := hide (show ∀ wx, Below wr.heap.size wr wx → Row .i32 wx (some ⟨cb, co + sk, none⟩) (e - sk) (c - sk) (cut l sk (e)) from fun wx hwx => unhide HSUB e hTs hTn wx hwx)
              have hown0 := hat.own
              have HL1 := hide hl1
              clear hcl hl1
              go_wp2_with (first
                | (refine wpList_make_own _ rfl _ _ 37 rfl wr.heap.size 21 j0 (.int .i32 0) 1 Tryd.underlying37 hj hy0 hy1 .i64 .i64 _ (e - sk) rfl rfl (by omega) (by rw [hy2]; omega) (by unfold maxLen; omega) (Nat.le_refl _) ?_; intro w2 hmk hgr2; have hb2 := belowNone hgr2; obtain hck2 := (hb2.cell (p := ⟨b, off + k, none⟩) hbw).trans hck)
                | (at_builtin; refine wpList_append_fits_any _ rfl (.tmp 59) (.tmp 66) 37 rfl wr.heap.size 21 j0 1 Tryd.underlying37 hj hy1 wr.heap.size 0 (e - sk) [] rfl hmk (some ⟨cb, co + sk, none⟩) (e - sk) (c - sk) ((cut l sk (e)).map (Value.int .i32)) rfl (unhide HL1) (fun e => by cases e) (unhide HRW w2 hb2).cells (ints_oneCell _ _) (by omega) ?_; intro w3 hln3 hgr3; simp only [Nat.zero_add, List.nil_append] at hln3; have hb3 := hb2.grown hgr3 (Nat.le_trans (Nat.le_refl _) hb2.size) (fun x hx => by obtain rfl := Option.some.inj hx; exact Nat.le_refl _); have hown3 := own_below hat.own hb3; have hck3 := (hb3.cell (p := ⟨b, off + k, none⟩) hbw).trans hck)
                | (at_builtin; refine wpList_append_own _ rfl (.tmp 68) (.tmp 70) 43 rfl w.heap.size 37 i0 (.slice none 0 0) 1 24 Tryd.underlying43 hi hz0 hz1 hz2 rfl (by decide) _ _ _ rfl (hown3.alloc _) ⟨w3.heap.size, 0, none⟩ 1 1 [.slice (some ⟨wr.heap.size, 0, none⟩) (e - sk) (e - sk)] rfl rfl (cellv _ _ _) (one_val _ rfl) (by unfold maxLen; omega) (by omega) (by have := Nat.le_trans hbel.size hb3.size; simp; omega) ?_; intro v' w4 hown4 hgr4 _))
              go_roundw
              case rel =>
                have e3 : Value.slice (some ⟨wr.heap.size, 0, none⟩) (e - sk) (e - sk) = lineVal wr.heap.size (cut l sk (e)) := by unfold lineVal; rw [unhide Hcl]
                have hl2 : w3.ownsRow w.heap.size 21 1 (lineVal wr.heap.size (cut l sk (e))) (cut l sk (e)).length ((cut l sk (e)).map (Value.int .i32)) := by
                  unfold lineVal
                  rw [unhide Hcl]
                  exact own_lo hln3 hbel.size
                rw [e3] at hown4
                have R := hat.snoc rfl hb3 hl2 hown4 hgr4
                have hb4 : Below w.heap.size w w4 := ((hbel.trans (hb3.mono hbel.size)).alloc (Nat.le_trans hbel.size hb3.size) _).grown hgr4 (by have := Nat.le_trans hbel.size hb3.size; simp; omega) (fun k hk => (hown3.lt k hk).1)
                refine ⟨k + 1, gs ++ [wr.heap.size], by omega, by go_num, ?_, kept2 (by decide) (own_below hso hb3) hown3 hgr4, hb4⟩
                rw [unhide Hline]
                exact R
              case measure => simp [intOf]; omega
            · have HT := hide (show toOf l e = e - 1 from by rw [unhide Href, e13, e10]; simp [hgt])
              have Hline := hide (show (linesL l).take (k + 1) = LT ++ [cut l sk (e - 1)] from by rw [unhide Htk, unhide Hin, unhide HT])
              have hTs : sk ≤ e - 1 := by omega
              have hTn : e - 1 ≤ n := by omega
              have hcl := cut_len l sk (e - 1) (by rw [unhide HLn]; omega)
              have Hcl := hide hcl
              have hl1 : ((cut l sk (e - 1)).map (Value.int .i32)).length = (e - 1 - sk) * 1 := by rw [List.length_map, unhide Hcl, Nat.mul_one]
              have HRW := hide (show ∀ wx, Below wr.heap.size wr wx → Row .i32 wx (some ⟨cb, co + sk, none⟩) (e - 1 - sk) (c - sk) (cut l sk (e - 1)) from fun wx hwx => unhide HSUB (e - 1) hTs hTn wx hwx)
              have hown0 := hat.own
              have HL1 := hide hl1
              clear hcl hl1
              go_wp2_with (first
                | (refine wpList_make_own _ rfl _ _ 37 rfl wr.heap.size 21 j0 (.int .i32 0) 1 Tryd.underlying37 hj hy0 hy1 .i64 .i64 _ (e - 1 - sk) rfl rfl (by omega) (by rw [hy2]; omega) (by unfold maxLen; omega) (Nat.le_refl _) ?_; intro w2 hmk hgr2; have hb2 := belowNone hgr2; obtain hck2 := (hb2.cell (p := ⟨b, off + k, none⟩) hbw).trans hck)
                | (at_builtin; refine wpList_append_fits_any _ rfl (.tmp 59) (.tmp 66) 37 rfl wr.heap.size 21 j0 1 Tryd.underlying37 hj hy1 wr.heap.size 0 (e - 1 - sk) [] rfl hmk (some ⟨cb, co + sk, none⟩) (e - 1 - sk) (c - sk) ((cut l sk (e - 1)).map (Value.int .i32)) rfl (unhide HL1) (fun e => by cases e) (unhide HRW w2 hb2).cells (ints_oneCell _ _) (by omega) ?_; intro w3 hln3 hgr3; simp only [Nat.zero_add, List.nil_append] at hln3; have hb3 := hb2.grown hgr3 (Nat.le_trans (Nat.le_refl _) hb2.size) (fun x hx => by obtain rfl := Option.some.inj hx; exact Nat.le_refl _); have hown3 := own_below hat.own hb3; have hck3 := (hb3.cell (p := ⟨b, off + k, none⟩) hbw).trans hck)
                | (at_builtin; refine wpList_append_own _ rfl (.tmp 68) (.tmp 70) 43 rfl w.heap.size 37 i0 (.slice none 0 0) 1 24 Tryd.underlying43 hi hz0 hz1 hz2 rfl (by decide) _ _ _ rfl (hown3.alloc _) ⟨w3.heap.size, 0, none⟩ 1 1 [.slice (some ⟨wr.heap.size, 0, none⟩) (e - 1 - sk) (e - 1 - sk)] rfl rfl (cellv _ _ _) (one_val _ rfl) (by unfold maxLen; omega) (by omega) (by have := Nat.le_trans hbel.size hb3.size; simp; omega) ?_; intro v' w4 hown4 hgr4 _))
              go_roundw
              case rel =>
                have e3 : Value.slice (some ⟨wr.heap.size, 0, none⟩) (e - 1 - sk) (e - 1 - sk) = lineVal wr.heap.size (cut l sk (e - 1)) := by unfold lineVal; rw [unhide Hcl]
                have hl2 : w3.ownsRow w.heap.size 21 1 (lineVal wr.heap.size (cut l sk (e - 1))) (cut l sk (e - 1)).length ((cut l sk (e - 1)).map (Value.int .i32)) := by
                  unfold lineVal
                  rw [unhide Hcl]
                  exact own_lo hln3 hbel.size
                rw [e3] at hown4
                have R := hat.snoc rfl hb3 hl2 hown4 hgr4
                have hb4 : Below w.heap.size w w4 := ((hbel.trans (hb3.mono hbel.size)).alloc (Nat.le_trans hbel.size hb3.size) _).grown hgr4 (by have := Nat.le_trans hbel.size hb3.size; simp; omega) (fun k hk => (hown3.lt k hk).1)
                refine ⟨k + 1, gs ++ [wr.heap.size], by omega, by go_num, ?_, kept2 (by decide) (own_below hso hb3) hown3 hgr4, hb4⟩
                rw [unhide Hline]
                exact R
              case measure => simp [intOf]; omega
          · have hgi : ¬ (sk : Int) < (e : Int) := by omega
            have HT := hide (show toOf l e = e from by rw [unhide Href]; simp [hgt])
            have Hline := hide (show (linesL l).take (k + 1) = LT ++ [cut l sk e] from by rw [unhide Htk, unhide Hin, unhide HT])
            have hTs : sk ≤ e := by omega
            have hTn : e ≤ n := by omega
            have hcl := cut_len l sk (e) (by rw [unhide HLn]; omega)
            have Hcl := hide hcl
            have hl1 : ((cut l sk (e)).map (Value.int .i32)).length = (e - sk) * 1 := by rw [List.length_map, unhide Hcl, Nat.mul_one]
            have HRW := hide (show ∀ wx, Below wr.heap.size wr wx → Row .i32 wx (some ⟨cb, co + sk, none⟩) (e - sk) (c - sk) (cut l sk (e)) from fun wx hwx => unhide HSUB e hTs hTn wx hwx)
            have hown0 := hat.own
            have HL1 := hide hl1
            clear hcl hl1
            go_wp2_with (first
              | (refine wpList_make_own _ rfl _ _ 37 rfl wr.heap.size 21 j0 (.int .i32 0) 1 Tryd.underlying37 hj hy0 hy1 .i64 .i64 _ (e - sk) rfl rfl (by omega) (by rw [hy2]; omega) (by unfold maxLen; omega) (Nat.le_refl _) ?_; intro w2 hmk hgr2; have hb2 := belowNone hgr2; obtain hck2 := (hb2.cell (p := ⟨b, off + k, none⟩) hbw).trans hck)
              | (at_builtin; refine wpList_append_fits_any _ rfl (.tmp 59) (.tmp 66) 37 rfl wr.heap.size 21 j0 1 Tryd.underlying37 hj hy1 wr.heap.size 0 (e - sk) [] rfl hmk (some ⟨cb, co + sk, none⟩) (e - sk) (c - sk) ((cut l sk (e)).map (Value.int .i32)) rfl (unhide HL1) (fun e => by cases e) (unhide HRW w2 hb2).cells (ints_oneCell _ _) (by omega) ?_; intro w3 hln3 hgr3; simp only [Nat.zero_add, List.nil_append] at hln3; have hb3 := hb2.grown hgr3 (Nat.le_trans (Nat.le_refl _) hb2.size) (fun x hx => by obtain rfl := Option.some.inj hx; exact Nat.le_refl _); have hown3 := own_below hat.own hb3; have hck3 := (hb3.cell (p := ⟨b, off + k, none⟩) hbw).trans hck)
              | (at_builtin; refine wpList_append_own _ rfl (.tmp 68) (.tmp 70) 43 rfl w.heap.size 37 i0 (.slice none 0 0) 1 24 Tryd.underlying43 hi hz0 hz1 hz2 rfl (by decide) _ _ _ rfl (hown3.alloc _) ⟨w3.heap.size, 0, none⟩ 1 1 [.slice (some ⟨wr.heap.size, 0, none⟩) (e - sk) (e - sk)] rfl rfl (cellv _ _ _) (one_val _ rfl) (by unfold maxLen; omega) (by omega) (by have := Nat.le_trans hbel.size hb3.size; simp; omega) ?_; intro v' w4 hown4 hgr4 _))
            go_roundw
            case rel =>
              have e3 : Value.slice (some ⟨wr.heap.size, 0, none⟩) (e - sk) (e - sk) = lineVal wr.heap.size (cut l sk (e)) := by unfold lineVal; rw [unhide Hcl]
              have hl2 : w3.ownsRow w.heap.size 21 1 (lineVal wr.heap.size (cut l sk (e))) (cut l sk (e)).length ((cut l sk (e)).map (Value.int .i32)) := by
                unfold lineVal
                rw [unhide Hcl]
                exact own_lo hln3 hbel.size
              rw [e3] at hown4
              have R := hat.snoc rfl hb3 hl2 hown4 hgr4
              have hb4 : Below w.heap.size w w4 := ((hbel.trans (hb3.mono hbel.size)).alloc (Nat.le_trans hbel.size hb3.size) _).grown hgr4 (by have := Nat.le_trans hbel.size hb3.size; simp; omega) (fun k hk => (hown3.lt k hk).1)
              refine ⟨k + 1, gs ++ [wr.heap.size], by omega, by go_num, ?_, kept2 (by decide) (own_below hso hb3) hown3 hgr4, hb4⟩
              rw [unhide Hline]
              exact R
            case measure => simp [intOf]; omega
      · have hin := linesL_last l k (by rw [unhide HLn, ← unhide HS]; omega)
        rw [unhide HLn, ← unhide HS, ← hsk] at hin
        have hk1i : ¬ (k : Int) + 1 < (S.length : Int) := by omega
        have Hline := hide (show (linesL l).take (k + 1) = LT ++ [cut l sk n] from by rw [htk, hin])
        clear hcell hmem hsb hski hsk htk hin hLT
        by_cases hpos : 0 < n
        · rcases h.at_ with h0 | ⟨cb, co, rfl, cbw, ccell⟩
          · omega
          by_cases hcs : c = sk
          · have hns : n = sk := by omega
            subst hcs
            subst hns
            have hnil : cut l n n = [] := by unfold cut; simp
            rw [hnil] at Hline
            clear ccell hnil
            have Hcl := hide (show ([] : List Int).length = 0 from rfl)
            have hl1 : ((([] : List Int)).map (Value.int .i32)).length = 0 * 1 := rfl
            have HRW := hide (show ∀ wx, Below wr.heap.size wr wx → Row .i32 wx (some ⟨cb, co, none⟩) 0 (0) [] from fun wx hwx => rowZ rfl (fun e => by cases e))
            have hown0 := hat.own
            have HL1 := hide hl1
            clear hl1
            go_wp2_with (first
              | (refine wpList_make_own _ rfl _ _ 37 rfl wr.heap.size 21 j0 (.int .i32 0) 1 Tryd.underlying37 hj hy0 hy1 .i64 .i64 _ 0 rfl rfl (by omega) (by rw [hy2]; omega) (by unfold maxLen; omega) (Nat.le_refl _) ?_; intro w2 hmk hgr2; have hb2 := belowNone hgr2; obtain hck2 := (hb2.cell (p := ⟨b, off + k, none⟩) hbw).trans hck)
              | (at_builtin; refine wpList_append_fits_any _ rfl (.tmp 59) (.tmp 66) 37 rfl wr.heap.size 21 j0 1 Tryd.underlying37 hj hy1 wr.heap.size 0 0 [] rfl hmk (some ⟨cb, co, none⟩) 0 (0) (([] : List Int).map (Value.int .i32)) rfl (unhide HL1) (fun e => ⟨rfl, (fun e => by cases e) e⟩) (unhide HRW w2 hb2).cells (ints_oneCell _ _) (by omega) ?_; intro w3 hln3 hgr3; simp only [Nat.zero_add, List.nil_append] at hln3; have hb3 := hb2.grown hgr3 (Nat.le_trans (Nat.le_refl _) hb2.size) (fun x hx => by obtain rfl := Option.some.inj hx; exact Nat.le_refl _); have hown3 := own_below hat.own hb3; have hck3 := (hb3.cell (p := ⟨b, off + k, none⟩) hbw).trans hck)
              | (at_builtin; refine wpList_append_own _ rfl (.tmp 68) (.tmp 70) 43 rfl w.heap.size 37 i0 (.slice none 0 0) 1 24 Tryd.underlying43 hi hz0 hz1 hz2 rfl (by decide) _ _ _ rfl (hown3.alloc _) ⟨w3.heap.size, 0, none⟩ 1 1 [.slice (some ⟨wr.heap.size, 0, none⟩) 0 0] rfl rfl (cellv _ _ _) (one_val _ rfl) (by unfold maxLen; omega) (by omega) (by have := Nat.le_trans hbel.size hb3.size; simp; omega) ?_; intro v' w4 hown4 hgr4 _))
            go_roundw
            case rel =>
              have e3 : Value.slice (some ⟨wr.heap.size, 0, none⟩) 0 0 = lineVal wr.heap.size ([] : List Int) := by unfold lineVal; rw [unhide Hcl]
              have hl2 : w3.ownsRow w.heap.size 21 1 (lineVal wr.heap.size ([] : List Int)) ([] : List Int).length (([] : List Int).map (Value.int .i32)) := by
                unfold lineVal
                rw [unhide Hcl]
                exact own_lo hln3 hbel.size
              rw [e3] at hown4
              have R := hat.snoc rfl hb3 hl2 hown4 hgr4
              have hb4 : Below w.heap.size w w4 := ((hbel.trans (hb3.mono hbel.size)).alloc (Nat.le_trans hbel.size hb3.size) _).grown hgr4 (by have := Nat.le_trans hbel.size hb3.size; simp; omega) (fun k hk => (hown3.lt k hk).1)
              refine ⟨k + 1, gs ++ [wr.heap.size], by omega, by go_num, ?_, kept2 (by decide) (own_below hso hb3) hown3 hgr4, hb4⟩
              rw [unhide Hline]
              exact R
            case measure => simp [intOf]; omega
          · have HSUB := hide (fun (t : Nat) (h1 : sk ≤ t) (h2 : t ≤ n) (wx : World) (hwx : Below wr.heap.size wr wx) => (Row.sub (k := .i32) (w := wr) (b := cb) (off := co) (c := c) (unhide HLn) hle h1 h2 (Nat.lt_of_lt_of_le cbw hbel.size) (fun i hi => (hbel.cell (p := ⟨cb, co + i, none⟩) cbw).trans (ccell i hi))).below hwx)
            clear ccell
            have hTs : sk ≤ n := by omega
            have hTn : n ≤ n := by omega
            have hcl := cut_len l sk (n) (by rw [unhide HLn]; omega)
            have Hcl := hide hcl
            have hl1 : ((cut l sk (n)).map (Value.int .i32)).length = (n - sk) * 1 := by rw [List.length_map, unhide Hcl, Nat.mul_one]
            have HRW := hide (show ∀ wx, Below wr.heap.size wr wx → Row .i32 wx (some ⟨cb, co + sk, none⟩) (n - sk) (c - sk) (cut l sk (n)) from fun wx hwx => unhide HSUB n hTs hTn wx hwx)
            have hown0 := hat.own
            have HL1 := hide hl1
            clear hcl hl1
            go_wp2_with (first
              | (refine wpList_make_own _ rfl _ _ 37 rfl wr.heap.size 21 j0 (.int .i32 0) 1 Tryd.underlying37 hj hy0 hy1 .i64 .i64 _ (n - sk) rfl rfl (by omega) (by rw [hy2]; omega) (by unfold maxLen; omega) (Nat.le_refl _) ?_; intro w2 hmk hgr2; have hb2 := belowNone hgr2; obtain hck2 := (hb2.cell (p := ⟨b, off + k, none⟩) hbw).trans hck)
              | (at_builtin; refine wpList_append_fits_any _ rfl (.tmp 59) (.tmp 66) 37 rfl wr.heap.size 21 j0 1 Tryd.underlying37 hj hy1 wr.heap.size 0 (n - sk) [] rfl hmk (some ⟨cb, co + sk, none⟩) (n - sk) (c - sk) ((cut l sk (n)).map (Value.int .i32)) rfl (unhide HL1) (fun e => by cases e) (unhide HRW w2 hb2).cells (ints_oneCell _ _) (by omega) ?_; intro w3 hln3 hgr3; simp only [Nat.zero_add, List.nil_append] at hln3; have hb3 := hb2.grown hgr3 (Nat.le_trans (Nat.le_refl _) hb2.size) (fun x hx => by obtain rfl := Option.some.inj hx; exact Nat.le_refl _); have hown3 := own_below hat.own hb3; have hck3 := (hb3.cell (p := ⟨b, off + k, none⟩) hbw).trans hck)
              | (at_builtin; refine wpList_append_own _ rfl (.tmp 68) (.tmp 70) 43 rfl w.heap.size 37 i0 (.slice none 0 0) 1 24 Tryd.underlying43 hi hz0 hz1 hz2 rfl (by decide) _ _ _ rfl (hown3.alloc _) ⟨w3.heap.size, 0, none⟩ 1 1 [.slice (some ⟨wr.heap.size, 0, none⟩) (n - sk) (n - sk)] rfl rfl (cellv _ _ _) (one_val _ rfl) (by unfold maxLen; omega) (by omega) (by have := Nat.le_trans hbel.size hb3.size; simp; omega) ?_; intro v' w4 hown4 hgr4 _))
            go_roundw
            case rel =>
              have e3 : Value.slice (some ⟨wr.heap.size, 0, none⟩) (n - sk) (n - sk) = lineVal wr.heap.size (cut l sk (n)) := by unfold lineVal; rw [unhide Hcl]
              have hl2 : w3.ownsRow w.heap.size 21 1 (lineVal wr.heap.size (cut l sk (n))) (cut l sk (n)).length ((cut l sk (n)).map (Value.int .i32)) := by
                unfold lineVal
                rw [unhide Hcl]
                exact own_lo hln3 hbel.size
              rw [e3] at hown4
              have R := hat.snoc rfl hb3 hl2 hown4 hgr4
              have hb4 : Below w.heap.size w w4 := ((hbel.trans (hb3.mono hbel.size)).alloc (Nat.le_trans hbel.size hb3.size) _).grown hgr4 (by have := Nat.le_trans hbel.size hb3.size; simp; omega) (fun k hk => (hown3.lt k hk).1)
              refine ⟨k + 1, gs ++ [wr.heap.size], by omega, by go_num, ?_, kept2 (by decide) (own_below hso hb3) hown3 hgr4, hb4⟩
              rw [unhide Hline]
              exact R
            case measure => simp [intOf]; omega
        · have hn0 : n = 0 := by omega
          have hs0 : sk = 0 := by omega
          subst hn0
          subst hs0
          have hnil : cut l 0 0 = [] := by unfold cut; simp
          rw [hnil] at Hline
          have hnl := h.nil
          cases a with
          | none =>
            have hc0 : c = 0 := hnl rfl
            subst hc0
            clear hnl h hnil
            have Hcl := hide (show ([] : List Int).length = 0 from rfl)
            have hl1 : ((([] : List Int)).map (Value.int .i32)).length = 0 * 1 := rfl
            have HRW := hide (show ∀ wx, Below wr.heap.size wr wx → Row .i32 wx (none) 0 (0) [] from fun wx hwx => rowZ rfl (fun _ => rfl))
            have hown0 := hat.own
            have HL1 := hide hl1
            clear hl1
            go_wp2_with (first
              | (refine wpList_make_own _ rfl _ _ 37 rfl wr.heap.size 21 j0 (.int .i32 0) 1 Tryd.underlying37 hj hy0 hy1 .i64 .i64 _ 0 rfl rfl (by omega) (by rw [hy2]; omega) (by unfold maxLen; omega) (Nat.le_refl _) ?_; intro w2 hmk hgr2; have hb2 := belowNone hgr2; obtain hck2 := (hb2.cell (p := ⟨b, off + k, none⟩) hbw).trans hck)
              | (at_builtin; refine wpList_append_fits_any _ rfl (.tmp 59) (.tmp 66) 37 rfl wr.heap.size 21 j0 1 Tryd.underlying37 hj hy1 wr.heap.size 0 0 [] rfl hmk (none) 0 (0) (([] : List Int).map (Value.int .i32)) rfl (unhide HL1) (fun e => ⟨rfl, (fun _ => rfl) e⟩) (unhide HRW w2 hb2).cells (ints_oneCell _ _) (by omega) ?_; intro w3 hln3 hgr3; simp only [Nat.zero_add, List.nil_append] at hln3; have hb3 := hb2.grown hgr3 (Nat.le_trans (Nat.le_refl _) hb2.size) (fun x hx => by obtain rfl := Option.some.inj hx; exact Nat.le_refl _); have hown3 := own_below hat.own hb3; have hck3 := (hb3.cell (p := ⟨b, off + k, none⟩) hbw).trans hck)
              | (at_builtin; refine wpList_append_own _ rfl (.tmp 68) (.tmp 70) 43 rfl w.heap.size 37 i0 (.slice none 0 0) 1 24 Tryd.underlying43 hi hz0 hz1 hz2 rfl (by decide) _ _ _ rfl (hown3.alloc _) ⟨w3.heap.size, 0, none⟩ 1 1 [.slice (some ⟨wr.heap.size, 0, none⟩) 0 0] rfl rfl (cellv _ _ _) (one_val _ rfl) (by unfold maxLen; omega) (by omega) (by have := Nat.le_trans hbel.size hb3.size; simp; omega) ?_; intro v' w4 hown4 hgr4 _))
            go_roundw
            case rel =>
              have e3 : Value.slice (some ⟨wr.heap.size, 0, none⟩) 0 0 = lineVal wr.heap.size ([] : List Int) := by unfold lineVal; rw [unhide Hcl]
              have hl2 : w3.ownsRow w.heap.size 21 1 (lineVal wr.heap.size ([] : List Int)) ([] : List Int).length (([] : List Int).map (Value.int .i32)) := by
                unfold lineVal
                rw [unhide Hcl]
                exact own_lo hln3 hbel.size
              rw [e3] at hown4
              have R := hat.snoc rfl hb3 hl2 hown4 hgr4
              have hb4 : Below w.heap.size w w4 := ((hbel.trans (hb3.mono hbel.size)).alloc (Nat.le_trans hbel.size hb3.size) _).grown hgr4 (by have := Nat.le_trans hbel.size hb3.size; simp; omega) (fun k hk => (hown3.lt k hk).1)
              refine ⟨k + 1, gs ++ [wr.heap.size], by omega, by go_num, ?_, kept2 (by decide) (own_below hso hb3) hown3 hgr4, hb4⟩
              rw [unhide Hline]
              exact R
            case measure => simp [intOf]; omega
          | some ad =>
            by_cases hc0 : c = 0
            · subst hc0
              clear hnl h hnil
              have Hcl := hide (show ([] : List Int).length = 0 from rfl)
              have hl1 : ((([] : List Int)).map (Value.int .i32)).length = 0 * 1 := rfl
              have HRW := hide (show ∀ wx, Below wr.heap.size wr wx → Row .i32 wx (some ad) 0 (0) [] from fun wx hwx => rowZ rfl (fun e => by cases e))
              have hown0 := hat.own
              have HL1 := hide hl1
              clear hl1
              go_wp2_with (first
                | (refine wpList_make_own _ rfl _ _ 37 rfl wr.heap.size 21 j0 (.int .i32 0) 1 Tryd.underlying37 hj hy0 hy1 .i64 .i64 _ 0 rfl rfl (by omega) (by rw [hy2]; omega) (by unfold maxLen; omega) (Nat.le_refl _) ?_; intro w2 hmk hgr2; have hb2 := belowNone hgr2; obtain hck2 := (hb2.cell (p := ⟨b, off + k, none⟩) hbw).trans hck)
                | (at_builtin; refine wpList_append_fits_any _ rfl (.tmp 59) (.tmp 66) 37 rfl wr.heap.size 21 j0 1 Tryd.underlying37 hj hy1 wr.heap.size 0 0 [] rfl hmk (some ad) 0 (0) (([] : List Int).map (Value.int .i32)) rfl (unhide HL1) (fun e => ⟨rfl, (fun e => by cases e) e⟩) (unhide HRW w2 hb2).cells (ints_oneCell _ _) (by omega) ?_; intro w3 hln3 hgr3; simp only [Nat.zero_add, List.nil_append] at hln3; have hb3 := hb2.grown hgr3 (Nat.le_trans (Nat.le_refl _) hb2.size) (fun x hx => by obtain rfl := Option.some.inj hx; exact Nat.le_refl _); have hown3 := own_below hat.own hb3; have hck3 := (hb3.cell (p := ⟨b, off + k, none⟩) hbw).trans hck)
                | (at_builtin; refine wpList_append_own _ rfl (.tmp 68) (.tmp 70) 43 rfl w.heap.size 37 i0 (.slice none 0 0) 1 24 Tryd.underlying43 hi hz0 hz1 hz2 rfl (by decide) _ _ _ rfl (hown3.alloc _) ⟨w3.heap.size, 0, none⟩ 1 1 [.slice (some ⟨wr.heap.size, 0, none⟩) 0 0] rfl rfl (cellv _ _ _) (one_val _ rfl) (by unfold maxLen; omega) (by omega) (by have := Nat.le_trans hbel.size hb3.size; simp; omega) ?_; intro v' w4 hown4 hgr4 _))
              go_roundw
              case rel =>
                have e3 : Value.slice (some ⟨wr.heap.size, 0, none⟩) 0 0 = lineVal wr.heap.size ([] : List Int) := by unfold lineVal; rw [unhide Hcl]
                have hl2 : w3.ownsRow w.heap.size 21 1 (lineVal wr.heap.size ([] : List Int)) ([] : List Int).length (([] : List Int).map (Value.int .i32)) := by
                  unfold lineVal
                  rw [unhide Hcl]
                  exact own_lo hln3 hbel.size
                rw [e3] at hown4
                have R := hat.snoc rfl hb3 hl2 hown4 hgr4
                have hb4 : Below w.heap.size w w4 := ((hbel.trans (hb3.mono hbel.size)).alloc (Nat.le_trans hbel.size hb3.size) _).grown hgr4 (by have := Nat.le_trans hbel.size hb3.size; simp; omega) (fun k hk => (hown3.lt k hk).1)
                refine ⟨k + 1, gs ++ [wr.heap.size], by omega, by go_num, ?_, kept2 (by decide) (own_below hso hb3) hown3 hgr4, hb4⟩
                rw [unhide Hline]
                exact R
              case measure => simp [intOf]; omega
            · clear hnl h hnil
              have Hcl := hide (show ([] : List Int).length = 0 from rfl)
              have hl1 : ((([] : List Int)).map (Value.int .i32)).length = 0 * 1 := rfl
              have HRW := hide (show ∀ wx, Below wr.heap.size wr wx → Row .i32 wx (some ad) 0 (c) [] from fun wx hwx => rowZ rfl (fun e => by cases e))
              have hown0 := hat.own
              have HL1 := hide hl1
              clear hl1
              go_wp2_with (first
                | (refine wpList_make_own _ rfl _ _ 37 rfl wr.heap.size 21 j0 (.int .i32 0) 1 Tryd.underlying37 hj hy0 hy1 .i64 .i64 _ 0 rfl rfl (by omega) (by rw [hy2]; omega) (by unfold maxLen; omega) (Nat.le_refl _) ?_; intro w2 hmk hgr2; have hb2 := belowNone hgr2; obtain hck2 := (hb2.cell (p := ⟨b, off + k, none⟩) hbw).trans hck)
                | (at_builtin; refine wpList_append_fits_any _ rfl (.tmp 59) (.tmp 66) 37 rfl wr.heap.size 21 j0 1 Tryd.underlying37 hj hy1 wr.heap.size 0 0 [] rfl hmk (some ad) 0 (c) (([] : List Int).map (Value.int .i32)) rfl (unhide HL1) (fun e => ⟨rfl, (fun e => by cases e) e⟩) (unhide HRW w2 hb2).cells (ints_oneCell _ _) (by omega) ?_; intro w3 hln3 hgr3; simp only [Nat.zero_add, List.nil_append] at hln3; have hb3 := hb2.grown hgr3 (Nat.le_trans (Nat.le_refl _) hb2.size) (fun x hx => by obtain rfl := Option.some.inj hx; exact Nat.le_refl _); have hown3 := own_below hat.own hb3; have hck3 := (hb3.cell (p := ⟨b, off + k, none⟩) hbw).trans hck)
                | (at_builtin; refine wpList_append_own _ rfl (.tmp 68) (.tmp 70) 43 rfl w.heap.size 37 i0 (.slice none 0 0) 1 24 Tryd.underlying43 hi hz0 hz1 hz2 rfl (by decide) _ _ _ rfl (hown3.alloc _) ⟨w3.heap.size, 0, none⟩ 1 1 [.slice (some ⟨wr.heap.size, 0, none⟩) 0 0] rfl rfl (cellv _ _ _) (one_val _ rfl) (by unfold maxLen; omega) (by omega) (by have := Nat.le_trans hbel.size hb3.size; simp; omega) ?_; intro v' w4 hown4 hgr4 _))
              go_roundw
              case rel =>
                have e3 : Value.slice (some ⟨wr.heap.size, 0, none⟩) 0 0 = lineVal wr.heap.size ([] : List Int) := by unfold lineVal; rw [unhide Hcl]
                have hl2 : w3.ownsRow w.heap.size 21 1 (lineVal wr.heap.size ([] : List Int)) ([] : List Int).length (([] : List Int).map (Value.int .i32)) := by
                  unfold lineVal
                  rw [unhide Hcl]
                  exact own_lo hln3 hbel.size
                rw [e3] at hown4
                have R := hat.snoc rfl hb3 hl2 hown4 hgr4
                have hb4 : Below w.heap.size w w4 := ((hbel.trans (hb3.mono hbel.size)).alloc (Nat.le_trans hbel.size hb3.size) _).grown hgr4 (by have := Nat.le_trans hbel.size hb3.size; simp; omega) (fun k hk => (hown3.lt k hk).1)
                refine ⟨k + 1, gs ++ [wr.heap.size], by omega, by go_num, ?_, kept2 (by decide) (own_below hso hb3) hown3 hgr4, hb4⟩
                rw [unhide Hline]
                exact R
              case measure => simp [intOf]; omega
    · have ek : k = S.length := by omega
      have hall : (linesL l).take k = linesL l := List.take_of_length_le (by rw [unhide HLL, unhide HLn, ← unhide HS]; omega)
      rw [hall] at hat
      have hkS : ¬ (k : Int) < (S.length : Int) := by omega
      clear hso hall
      go_wp2
      go_ret
      first | exact ⟨_, gs, rfl, hat, hbel⟩ | exact ⟨_, rfl, ⟨gs, hat⟩, hbel⟩
end Go.Proofs.YtcehhkjlbhodeaaDoor.mem
