import Derived.Test.YtcehhkjlbhodeaaDoorSvQ4
namespace Go.Proofs.YtcehhkjlbhodeaaDoor.sv
open Go.ChangeShapes Go.WideShapes Go.ChangeAt Go.RowKit
open mem
open ints (hide unhide)
set_option linter.unusedVariables false
/-- well formed -/
def cln (s : ByteArray) : Bool := (((decZ (bytesZ s)).2 : Nat) : Int) == (s.size : Int)
theorem cln_yes {s : ByteArray} (h : cln s = true) : (decZ (bytesZ s)).2 = s.size := by
  unfold cln at h
  have : (((decZ (bytesZ s)).2 : Nat) : Int) = (s.size : Int) := by simpa using h
  omega
theorem cln_no {s : ByteArray} (h : cln s = false) : (decZ (bytesZ s)).2 < s.size := by
  have h1 := decZ_le (bytesZ s) (bytesZ_byt s)
  rw [bytesZ_len] at h1
  have h2 : ¬ (decZ (bytesZ s)).2 = s.size := by
    intro e
    unfold cln at h
    rw [e] at h
    simp at h
  omega
theorem cln_flat (s : ByteArray) (h : cln s = true) : ((decZ (bytesZ s)).1).all scB = true ∧ bytesZ s = (decZ (bytesZ s)).1.flatMap putB := by
  have h1 := cln_yes h
  obtain ⟨i1, _, i3, _⟩ := decF_flat (bytesZ s).length (bytesZ s) (bytesZ_byt s)
  refine ⟨i3, ?_⟩
  have e : (decF (bytesZ s).length (bytesZ s)).2 = (bytesZ s).length := by
    rw [bytesZ_len]; unfold decZ at h1; rw [bytesZ_len] at h1; exact h1
  rw [e, List.take_length] at i1
  exact i1.symm
theorem all_at {zs : List Int} (h : zs.all scB = true) (k : Nat) (hk : k < zs.length) : scP (zs.getD k 0) := by
  rw [List.all_eq_true] at h
  refine (scB_iff _).1 (h _ ?_)
  simp [List.getD, hk]
theorem flat_cut (zs : List Int) (j : Nat) (hj : j < zs.length) : zs.flatMap putB = mem.flat zs j ++ (putB (zs.getD j 0) ++ (zs.drop (j + 1)).flatMap putB) := by
  have e : zs = zs.take j ++ (zs.getD j 0 :: zs.drop (j + 1)) := by
    have : zs.getD j 0 = zs[j] := by simp [List.getD, hj]
    rw [this, List.getElem_cons_drop, List.take_append_drop]
  conv => lhs; rw [e]
  rw [List.flatMap_append, List.flatMap_cons]
  rfl
/-- the character at the j-th place of a text that is well formed -/
theorem dec_at (s : ByteArray) (zs : List Int) (hall : zs.all scB = true) (hz : bytesZ s = zs.flatMap putB) (j : Nat) (hj : j < zs.length) :
    Utf8.decode s (mem.flat zs j).length = ((zs.getD j 0).toNat, (putB (zs.getD j 0)).length) ∧ (mem.flat zs j).length < s.size := by
  have hc := flat_cut zs j hj
  have hp := putB_len (zs.getD j 0)
  have hl : (mem.flat zs j).length < s.size := by
    rw [← bytesZ_len, hz, hc, List.length_append, List.length_append]
    omega
  refine ⟨?_, hl⟩
  have hd : (bytesZ s).drop (mem.flat zs j).length = putB (zs.getD j 0) ++ (zs.drop (j + 1)).flatMap putB := by
    rw [hz, hc, List.drop_left' rfl]
  rw [decode_one s _ hl, hd, one_put _ (all_at hall j hj), if_neg (by simp only; omega)]
def wrTo (zs : List Int) (k : Nat) : List Int := (zs.take k).flatMap wrB
theorem wrTo_succ (zs : List Int) (k : Nat) (h : k < zs.length) : wrTo zs (k + 1) = wrTo zs k ++ wrB (zs.getD k 0) := by
  unfold wrTo
  rw [List.take_add_one, List.flatMap_append]
  simp [List.getD, h]
theorem wrTo_len (zs : List Int) (hall : zs.all scB = true) : ∀ k, k ≤ zs.length → (wrTo zs k).length ≤ 12 * k
  | 0, _ => by simp [wrTo]
  | k + 1, h => by
    rw [wrTo_succ zs k (by omega), List.length_append]
    have := wrTo_len zs hall k (by omega)
    have := wrB_len (zs.getD k 0) (all_at hall k (by omega))
    omega
def qS (s : ByteArray) : ByteArray := if cln s = true then strOfNums (34 :: (decZ (bytesZ s)).1.flatMap wrB ++ [34]) else ⟨#[]⟩
def qE (s : ByteArray) : Int := if cln s = true then 0 else 1
theorem wrB_byt (c : Int) (hs : scP c) : Byt (wrB c) := by
  intro z hz
  unfold wrB at hz
  rw [List.mem_flatMap] at hz
  obtain ⟨d, hd, h2⟩ := hz
  exact putB_byt (by have := (wr_good c hs d hd).2.2.2; exact this) z h2
theorem cells_u {zs : List Int} (h : Byt zs) : zs.map (Value.int .u8) = Lib.byteCells (zs.map fun n => UInt8.ofNat n.toNat) := by
  unfold Lib.byteCells
  rw [List.map_map]
  apply List.map_congr_left
  intro z hz
  have := h z hz
  simp
  omega
theorem flat_pos (zs : List Int) : ∀ j, j ≤ zs.length → j ≤ (mem.flat zs j).length
  | 0, _ => Nat.zero_le _
  | j + 1, h => by
    rw [flat_succ zs j (by omega), List.length_append]
    have := flat_pos zs j (by omega)
    have := putB_len (zs.getD j 0)
    omega
set_option maxHeartbeats 4000000 in
theorem qt_ok (s : ByteArray) (w : World) (hs : s.size ≤ 1099511627776) :
    Calls Tryd.prog 4 #[.string s] w fun e w' => e = .returned (.tuple #[.string (qS s), .int .i64 (qE s)]) ∧ Below w.heap.size w w' := by
  have C := hide (fun W => clean_str s W (by omega))
  have hC : ((((decZ (bytesZ s)).2 : Nat) : Int) == (s.size : Int)) = cln s := rfl
  rw [hC] at C
  clear hC
  unfold qS qE
  cases hc : cln s
  · rw [hc] at C
    clear hc
    go_enter Tryd.func4, Tryd.ntmps4
    go_wp2_with fail
    refine (unhide C _).mono ?_
    rintro e w1 ⟨rfl, b1⟩
    clear C
    go_wp2
    go_ret2
    exact ⟨rfl, b1⟩
  · rw [hc] at C
    obtain ⟨hall, hz⟩ := cln_flat s hc
    have hzl := decZ_len (bytesZ s) (bytesZ_byt s)
    rw [cln_yes hc] at hzl
    obtain ⟨zs, hzs⟩ : ∃ zs, zs = (decZ (bytesZ s)).1 := ⟨_, rfl⟩
    rw [← hzs] at hall hz hzl ⊢
    clear hc hzs
    have HD := hide (fun j hj => dec_at s zs hall hz j hj)
    have HL := hide (wrTo_len zs hall)
    have HA := hide (fun j hj => all_at hall j hj)
    have HE := hide (show (mem.flat zs zs.length).length = s.size by rw [flat_all zs _ (Nat.le_refl _), ← hz, bytesZ_len])
    obtain ⟨R, hR⟩ : ∃ R, R = strOfNums (34 :: zs.flatMap wrB ++ [34]) := ⟨_, rfl⟩
    rw [← hR]
    have HR := hide hR
    have HBy := hide (show Byt (34 :: zs.flatMap wrB ++ [34]) by
      intro z hz2
      simp only [List.cons_append, List.mem_cons, List.mem_append, List.not_mem_nil, or_false, List.mem_flatMap] at hz2
      rcases hz2 with rfl | ⟨d, hd, h2⟩ | rfl
      · omega
      · exact wrB_byt d ((scB_iff d).1 (List.all_eq_true.1 hall d hd)) z h2
      · omega)
    clear hz hall hR
    go_enter Tryd.func4, Tryd.ntmps4
    go_wp2_with fail
    refine (unhide C _).mono ?_
    rintro e w1 ⟨rfl, b1⟩
    clear C
    go_wp2_with fail
    refine (wByte w1.heap.size w1.heap.size [] 34 _ (Lib.IsBuilderF.of (Lib.fresh_isBuilder 31 5 w1)) (by simp) (by simp)).mono ?_
    rintro e w2 ⟨rfl, i2, b2, k2⟩
    have b3 := ((Below.refl w1.heap.size w1).alloc (Nat.le_refl _) (.cells #[.pointer none, .slice none 0 0] 31)).trans b2
    have hB2 := b3.size
    have hlt2 : w1.heap.size < w2.heap.size := by have := b2.size; simp at this; omega
    clear b2 k2
    go_wp2_with fail
    go_loopw [6] (fun _ wr => ∃ j : Nat, j ≤ zs.length ∧ Bld w1.heap.size w1.heap.size (34 :: wrTo zs j) wr ∧ wr.heap[w2.heap.size]? = some (.stringIter s (mem.flat zs j).length) ∧ Below w1.heap.size w1 wr) (fun _ wr => s.size - wr.iterPos w2.heap.size)
    case atStart => exact ⟨0, Nat.zero_le _, Lib.IsBuilderF.alloc i2 _, World.iter_heap w2 s 0, b3.alloc hB2 _⟩
    case round =>
      obtain ⟨j, hj, hI, hit, hbw⟩ := hrel
      have hsz : w2.heap.size < wr.heap.size := (Array.getElem?_eq_some_iff.1 hit).1
      have hl := unhide HL j hj
      by_cases hp : j < zs.length
      · obtain ⟨hd, hlt⟩ := unhide HD j hp
        have hsc := unhide HA j hp
        have hnx : ∀ ty, (Instr.next (.pointer (some ⟨w2.heap.size, 0, none⟩)) true ty).run Tryd.prog wr = .ok (.tuple #[.bool true, .int .i64 ((mem.flat zs j).length : Nat), .int .i32 (zs.getD j 0)]) (wr.iterAt w2.heap.size s (mem.flat zs (j + 1)).length) := fun ty => by
          have h := Lib.run_next_any_at (P := Tryd.prog) wr w2.heap.size s (mem.flat zs j).length ty hit hlt
          rw [hd] at h
          rw [h, flat_succ zs j hp, List.length_append]
          have e : (((zs.getD j 0).toNat : Nat) : Int) = zs.getD j 0 := by unfold scP at hsc; omega
          rw [e]
        have hI2 : Bld _ _ _ _ := Lib.IsBuilderF.iterAt hI hit (mem.flat zs (j + 1)).length
        have hit2 := Lib.iterAt_heap wr w2.heap.size s (mem.flat zs j).length (mem.flat zs (j + 1)).length hit
        have hbw2 := Lib.below_iterAt hbw (k := w2.heap.size) (by omega) s (mem.flat zs (j + 1)).length
        have hsz2 : w1.heap.size ≤ (wr.iterAt w2.heap.size s (mem.flat zs (j + 1)).length).heap.size := by rw [Lib.iterAt_size]; omega
        have hfl : (mem.flat zs (j + 1)).length = (mem.flat zs j).length + (putB (zs.getD j 0)).length := by rw [flat_succ zs j hp, List.length_append]
        have hpl := (putB_len (zs.getD j 0)).1
        have hsu := hide (wrTo_succ zs j hp)
        obtain ⟨c, hcc⟩ : ∃ c, c = zs.getD j 0 := ⟨_, rfl⟩
        rw [← hcc] at hsc hnx hfl hpl hsu
        obtain ⟨p, hpp⟩ : ∃ p, p = (mem.flat zs j).length := ⟨_, rfl⟩
        obtain ⟨p', hpp'⟩ : ∃ p', p' = (mem.flat zs (j + 1)).length := ⟨_, rfl⟩
        rw [← hpp, ← hpp'] at hnx
        rw [← hpp'] at hI2 hit2 hbw2 hsz2 hfl
        rw [← hpp] at hit hfl hlt
        have HP := hide hpp'
        have HF := hide hfl
        clear hcc hpp hpp' hd hI hbw hfl
        go_wp2_with fail
        refine (lq_ok w1.heap.size w1.heap.size _ c _ hI2 hsc (by simp only [List.length_cons]; omega) hsz2).mono ?_
        rintro e w3 ⟨rfl, i3, b4, k3⟩
        have hit3 := Lib.OthersKept.iter k3 hit2 (by omega)
        have hbw3 := hbw2.trans b4
        clear b4 k3 hI2 hbw2 hit2
        go_wp2
        refine ⟨⟨j + 1, by omega, ?_, ?_, hbw3⟩, ?_⟩
        · rw [unhide hsu]
          exact i3
        · rw [← unhide HP]
          exact hit3
        · simp only [World.iterPos, hit3, hit]
          have := unhide HF
          omega
      · obtain rfl : j = zs.length := by omega
        have hE := unhide HE
        rw [hE] at hit
        have hnx : ∀ ty, (Instr.next (.pointer (some ⟨w2.heap.size, 0, none⟩)) true ty).run Tryd.prog wr = .ok (.tuple #[.bool false]) wr := fun ty => Lib.run_next_end_at (P := Tryd.prog) wr w2.heap.size s s.size ty hit (by omega)
        have hbs := hbw.size
        clear hE
        go_wp2_with fail
        refine (wByte w1.heap.size w1.heap.size _ 34 _ hI (by simp only [List.length_cons]; omega) hbs).mono ?_
        rintro e w3 ⟨rfl, i3, b4, k3⟩
        have hbw3 := hbw.trans b4
        have hs3 := hbw3.size
        have e1 : (34 :: wrTo zs zs.length ++ [34]) = (34 :: zs.flatMap wrB ++ [34]) := by unfold wrTo; rw [List.take_length]
        unfold Bld at i3
        rw [e1, cells_u (unhide HBy)] at i3
        have HI3 := hide i3
        clear b4 k3 hI i3 hbw e1
        go_wp2_with fail
        refine (Tryd.Builder_String_any_k w1.heap.size w1.heap.size _ w3 (unhide HI3) hs3).mono ?_
        rintro e w4 ⟨rfl, -, b5, -⟩
        clear HI3
        go_wp2
        go_ret2
        refine ⟨?_, b1.trans ((hbw3.trans b5).mono b1.size)⟩
        have hRR : R = ⟨(34 :: (List.map (fun n => UInt8.ofNat n.toNat) (zs.flatMap wrB) ++ [34])).toArray⟩ := by rw [unhide HR]; simp [strOfNums]
        rw [hRR]
        rfl
end Go.Proofs.YtcehhkjlbhodeaaDoor.sv
