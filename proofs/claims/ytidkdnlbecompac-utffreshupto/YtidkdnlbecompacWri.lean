import Derived.Test.YtidkdnlbecompacPlcL
import Derived.Maps.AppendAt
import Derived.OneCell
namespace Go.Proofs.Ytidkdnlbecompac.mem
open Go.ChangeShapes Go.WideShapes Go.ChangeAt Go.RowKit
open ints (hide unhide)
set_option linter.unusedVariables false

def marksL (k : Nat) : List Int := (List.range k).map fun (i : Nat) => -7000 - (i : Int)
theorem marks_len (k : Nat) : (marksL k).length = k := by simp [marksL]
theorem marks_succ (k : Nat) : marksL (k + 1) = marksL k ++ [-7000 - (k : Int)] := by simp [marksL, List.range_succ]
theorem marks_get (k i : Nat) (h : i < k) : (marksL k).getD i 0 = -7000 - (i : Int) := by simp [marksL, List.getD, h]
set_option maxHeartbeats 2000000 in
theorem roomy_any (a : Option Addr) (n c : Nat) (l : List Int) (w : World) (h : Row .i32 w a n c l) (hn : n ≤ 1099511627776) :
    Calls Try.prog 9 #[.slice a n c] w fun e w' => ∃ v, e = .returned v ∧ w'.ownsRow w.heap.size 21 1 v (n + 40) ((l ++ marksL 40).map (Value.int .i32)) ∧ Below w.heap.size w w' := by
  obtain ⟨i0, hi, hz0, hz1, hz2⟩ := info_parts info32
  have hl : (l.map (Value.int .i32)).length = n * 1 := by simp [h.len]
  have h00 := h.nil
  have hle := h.le
  go_enter Try.func9, Try.ntmps9
  go_wp2_with (first
    | (refine wpList_make_own _ rfl _ _ 22 rfl w.heap.size 21 i0 (.int .i32 0) 1 Try.underlying22 hi hz0 hz1 .i64 .i64 _ (n + 40) rfl rfl rfl (by rw [hz2]; omega) (by unfold maxLen; omega) (Nat.le_refl _) ?_; intro w1 hown hgrow)
    | (at_builtin; refine wpList_append_fits_any _ rfl (.tmp 9) (.tmp 10) 22 rfl w.heap.size 21 i0 1 Try.underlying22 hi hz1 w.heap.size 0 (n + 40) [] rfl hown a n c (l.map (Value.int .i32)) rfl hl (fun e => ⟨by have := h00 e; omega, h00 e⟩) (h.below (belowNone hgrow)).cells (ints_oneCell _ _) (by omega) ?_; intro w2 hown2 hgrow2))
  simp only [Nat.zero_add, List.nil_append] at hown2 ⊢
  have B2 : Below w.heap.size w w2 := (belowNone hgrow).grown hgrow2 hgrow.size (fun k hk => by obtain rfl := Option.some.inj hk; exact Nat.le_refl _)
  have Ho := hide (show w2.ownsRow w.heap.size 21 1 (.slice (some ⟨w.heap.size, 0, none⟩) n (n + 40)) (n + 0) ((l ++ marksL 0).map (Value.int .i32)) from by simpa [marksL] using hown2)
  clear hown hgrow hown2 hgrow2
  go_loopw [3, 4] (fun v i wr => ∃ k : Nat, k ≤ 40 ∧ i = .int .i64 k ∧ wr.ownsRow w.heap.size 21 1 v (n + k) ((l ++ marksL k).map (Value.int .i32)) ∧ Below w.heap.size w wr) (fun _ i _ => 40 - (intOf i).toNat)
  case atStart => exact ⟨0, Nat.zero_le _, rfl, unhide Ho, B2⟩
  case round =>
    obtain ⟨k, hk, rfl, hown, hbel⟩ := hrel
    by_cases hlt : k < 40
    · have ki : (k : Int) < 40 := by omega
      have hcel := cellv wr (.int .i32 (-7000 - (k : Int))) 21
      have Hlt := hide hown.lt
      have hsz := hbel.size
      go_wp2_with (at_builtin; refine wpList_append_own _ rfl _ _ 22 rfl w.heap.size 21 i0 (.int .i32 0) 1 4 Try.underlying22 hi hz0 hz1 hz2 rfl (by decide) _ _ _ rfl (hown.alloc _) ⟨wr.heap.size, 0, none⟩ 1 1 [.int .i32 (-7000 - (k : Int))] rfl (by simp) hcel (by intro u hu; simp at hu; subst hu; rfl) (by unfold maxLen; omega) (by omega) (by simp; omega) ?_; intro v' w3 hown' hgrow _)
      go_roundw
      case rel =>
        refine ⟨k + 1, by omega, by go_num, by rw [marks_succ, ← List.append_assoc, List.map_append (l₁ := l ++ marksL k)]; exact hown', ?_⟩
        exact (hbel.alloc hbel.size _).grown hgrow (by simp; omega) (fun k hk => (unhide Hlt k hk).1)
      case measure => simp [intOf]; omega
    · have ki : ¬ (k : Int) < 40 := by omega
      have e : k = 40 := by omega
      subst e
      go_wp2
      go_ret
      exact ⟨_, rfl, by simpa using hown, hbel⟩
theorem Row.head {k : IntKind} {w : World} {a : Option Addr} {n m c : Nat} {l r : List Int} (h : Row k w a (n + m) c (l ++ r)) (hl : l.length = n) : Row k w a n c l := by
  refine ⟨hl, by have := h.le; omega, h.nil, ?_⟩
  rcases h.at_ with h0 | ⟨b, off, ha, hb, hc⟩
  · exact .inl (by omega)
  · refine .inr ⟨b, off, ha, hb, fun i hi => ?_⟩
    rw [hc i (by omega)]
    simp [List.getD, List.getElem?_append_left (show i < l.length by omega)]
set_option maxHeartbeats 2000000 in
theorem untouched_true (a a' : Option Addr) (n c c' : Nat) (l : List Int) (w : World) (h : Row .i32 w a (n + 40) c (l ++ marksL 40)) (h' : Row .i32 w a' n c' l) (hn : n ≤ 1099511627776) :
    Calls Try.prog 13 #[.slice a (n + 40) c, .slice a' n c'] w fun e w' => e = .returned (.bool true) ∧ Below w.heap.size w w' := by
  have hnc : (n : Int) ≤ (c : Int) := by have := h.le; omega
  have hh := h.head h'.len
  have hA := hide (alike_eq a a' n n c c' l w hh h' (by omega))
  rcases h.at_ with h0 | ⟨b, off, rfl, hbw, hcell⟩
  · omega
  have HC := hide (show ∀ i, i < 40 → w.cell? ⟨b, off + (n + i), none⟩ = some (.int .i32 (-7000 - (i : Int))) from fun i hi => by
    rw [hcell (n + i) (by omega), ← marks_get 40 i hi]
    have := h'.len
    simp [List.getD, List.getElem?_append_right (show l.length ≤ n + i by omega), show n + i - l.length = i by omega])
  clear hcell hh
  go_enter Try.func13, Try.ntmps13
  go_wp2_with fail
  refine (unhide hA).mono ?_
  rintro e w1 ⟨rfl, B1⟩
  clear hA
  go_wp2
  go_loopw [5] (fun i wr => ∃ k : Nat, k ≤ 40 ∧ i = .int .i64 k ∧ Below w.heap.size w wr) (fun i _ => 40 - (intOf i).toNat)
  case atStart => exact ⟨0, Nat.zero_le _, rfl, B1⟩
  case round =>
    obtain ⟨k, hk, rfl, hbel⟩ := hrel
    by_cases hlt : k < 40
    · have ki : (k : Int) < 40 := by omega
      have x1 := (hbel.cell (p := ⟨b, off + (n + k), none⟩) hbw).trans (unhide HC k hlt)
      have hx : ((-7000 - (k : Int)) != (-7000 - (k : Int))) = false := by simp
      have kn : (n : Int) + (k : Int) < (n : Int) + 40 := by omega
      clear HC
      go_wp2
      go_roundw
      case rel => exact ⟨k + 1, by omega, by go_num, hbel⟩
      case measure => simp [intOf]; omega
    · have ki : ¬ (k : Int) < 40 := by omega
      go_wp2
      go_ret
      exact ⟨rfl, hbel⟩
/-- What a reader finds in a row of places, whoever owns it. -/
def PosAt (w : World) (g n : Nat) (l : List Int) : Prop := g < w.heap.size ∧ ∀ m, m ≤ n → w.cell? ⟨g, m * 2, none⟩ = some (.int .i64 (posT l m).1) ∧ w.cell? ⟨g, m * 2 + 1, none⟩ = some (.int .i64 (posT l m).2)
theorem PosAt.below {w w' : World} {g n : Nat} {l : List Int} (h : PosAt w g n l) (hb : Below w.heap.size w w') : PosAt w' g n l :=
  ⟨Nat.lt_of_lt_of_le h.1 hb.size, fun m hm => ⟨(hb.cell (by exact h.1)).trans (h.2 m hm).1, (hb.cell (by exact h.1)).trans (h.2 m hm).2⟩⟩
set_option maxHeartbeats 2000000 in
theorem spotted_true (g c : Nat) (a : Option Addr) (n c' : Nat) (l : List Int) (w : World) (h : PosAt w g n l) (h' : Row .i32 w a n c' l) (hn : n ≤ 1099511627776) :
    Calls Try.prog 22 #[.slice (some ⟨g, 0, none⟩) (n + 1) c, .slice a n c'] w fun e w' => e = .returned (.bool true) ∧ Below w.heap.size w w' := by
  go_enter Try.func22, Try.ntmps22
  go_wp2_with fail
  refine (rplaces_any _ _ _ _ _ h' hn).mono ?_
  rintro e w1 ⟨v, rfl, ho, B1⟩
  obtain ⟨g1, cap1, rfl, hg1, hc1⟩ := pos_some ho
  have h1 := h.below B1
  have HC := hide hc1
  clear ho hc1 h h'
  go_wp2
  go_loopw [6] (fun i wr => ∃ k : Nat, k ≤ n + 1 ∧ i = .int .i64 k ∧ Below w1.heap.size w1 wr) (fun i _ => n + 1 - (intOf i).toNat)
  case atStart => exact ⟨0, Nat.zero_le _, rfl, Below.refl _ _⟩
  case round =>
    obtain ⟨k, hk, rfl, hbel⟩ := hrel
    by_cases hlt : k < n + 1
    · have ki : (k : Int) < (n : Int) + 1 := by omega
      obtain ⟨x1, x2⟩ := unhide HC k (by omega)
      obtain ⟨z1, z2⟩ := h1.2 k (by omega)
      have y1 := (hbel.cell (p := ⟨g1, k * 2, none⟩) hg1).trans x1
      have y2 := (hbel.cell (p := ⟨g1, k * 2 + 1, none⟩) hg1).trans x2
      have t1 := (hbel.cell (p := ⟨g, k * 2, none⟩) h1.1).trans z1
      have t2 := (hbel.cell (p := ⟨g, k * 2 + 1, none⟩) h1.1).trans z2
      generalize (posT l k).1 = X at *
      generalize (posT l k).2 = Y at *
      clear HC h1 x1 x2 z1 z2
      go_wp2
      go_quiet (fail)
      go_wp2
      go_roundw
      case rel => exact ⟨k + 1, by omega, by go_num, below_drewN hbel _⟩
      case measure => simp [intOf]; omega
    · have ki : ¬ (k : Int) < (n : Int) + 1 := by omega
      go_wp2
      go_ret
      exact ⟨rfl, B1.trans (hbel.mono B1.size)⟩
theorem own_block_eq {w w' : World} {base : Nat} {e : TypeId} {size g n cap : Nat} {xs : List Value} (h : w.ownsRow base e size (.slice (some ⟨g, 0, none⟩) n cap) n xs) (hb : w'.heap[g]? = w.heap[g]?) : w'.ownsRow base e size (.slice (some ⟨g, 0, none⟩) n cap) n xs := by
  refine ⟨h.1, ?_⟩
  rcases h.2 with ⟨h', _⟩ | ⟨g', cap', cur, h', r1, r2, r3⟩
  · simp at h'
  · have h2 := h'
    simp only [Value.slice.injEq, Option.some.injEq, Addr.mk.injEq, and_true, true_and] at h2
    obtain ⟨rfl, rfl⟩ := h2
    exact .inr ⟨g, cap, cur, rfl, r1, hb.trans r2, r3⟩
theorem own_lt {w : World} {base : Nat} {e : TypeId} {size g n cap : Nat} {xs : List Value} (h : w.ownsRow base e size (.slice (some ⟨g, 0, none⟩) n cap) n xs) : base ≤ g ∧ g < w.heap.size := h.lt g rfl
theorem own_type {w : World} {base : Nat} {e : TypeId} {size g n cap : Nat} {xs : List Value} (h : w.ownsRow base e size (.slice (some ⟨g, 0, none⟩) n cap) n xs) : ∃ cur, w.heap[g]? = some (.cells cur e (0, 0)) := by
  rcases h.2 with ⟨h', _⟩ | ⟨g', cap', cur, h', r1, r2, r3⟩
  · simp at h'
  · simp only [Value.slice.injEq, Option.some.injEq, Addr.mk.injEq, and_true, true_and] at h'
    obtain ⟨rfl, rfl⟩ := h'
    exact ⟨cur, r2⟩
theorem own_ne {w : World} {base base' : Nat} {e e' : TypeId} {size size' g g' n n' cap cap' : Nat} {xs xs' : List Value} (h : w.ownsRow base e size (.slice (some ⟨g, 0, none⟩) n cap) n xs) (h' : w.ownsRow base' e' size' (.slice (some ⟨g', 0, none⟩) n' cap') n' xs') (he : e ≠ e') : g ≠ g' := by
  intro hg
  subst hg
  obtain ⟨c1, h1⟩ := own_type h
  obtain ⟨c2, h2⟩ := own_type h'
  rw [h1] at h2
  simp at h2
  exact he h2.2
/-- One step more of what leaves all old blocks but A as they were. -/
theorem grown_more {w wr w' : World} {A : Nat} {r : Option Nat} (h : w.grownBy wr (some A)) (k : wr.grownBy w' r) (hr : ∀ q, r = some q → q = A ∨ w.heap.size ≤ q) : w.grownBy w' (some A) :=
  ⟨k.os.trans h.os, k.tape.trans h.tape, k.output.trans h.output, Nat.le_trans h.size k.size, fun i hi hne => (k.block i (Nat.lt_of_lt_of_le hi h.size) (fun e => by
    rcases hr i e.symm with e2 | e2
    · exact hne (by rw [e2])
    · omega)).trans (h.block i hi hne)⟩
theorem grown_below {w wr w' : World} {A B : Nat} (hb : Below B w wr) (h : wr.grownBy w' (some A)) (hA : B ≤ A) (hB : B ≤ wr.heap.size) : Below B w w' :=
  hb.grown h hB (fun k hk => by obtain rfl := Option.some.inj hk; exact hA)
def setTo (l : List Int) (x : Int) (k : Nat) : List Int := List.replicate k x ++ l.drop k
theorem setTo_zero (l : List Int) (x : Int) : setTo l x 0 = l := by simp [setTo]
theorem setTo_len (l : List Int) (x : Int) (k : Nat) (h : k ≤ l.length) : (setTo l x k).length = l.length := by simp [setTo]; omega
theorem setTo_set (l : List Int) (x : Int) (k : Nat) (h : k < l.length) : (setTo l x k).set k x = setTo l x (k + 1) := by
  unfold setTo
  rw [List.set_append_right _ _ (by simp), List.length_replicate, Nat.sub_self, List.drop_eq_getElem_cons h, List.set_cons_zero, List.replicate_succ']
  simp
theorem setTo_all (l r : List Int) (x : Int) (n : Nat) (h : l.length = n) : setTo (l ++ r) x n = List.replicate n x ++ r := by
  unfold setTo
  rw [List.drop_append_of_le_length (by omega), List.drop_eq_nil_of_le (by omega), List.nil_append]
theorem setTo_full (l : List Int) (x : Int) (n : Nat) (h : l.length = n) : setTo l x n = List.replicate n x := by
  have := setTo_all l [] x n h
  simpa using this
theorem map_set_int (k : IntKind) (l : List Int) (j : Nat) (x : Int) : (l.map (Value.int k)).set j (.int k x) = (l.set j x).map (Value.int k) := by
  rw [List.map_set]
end Go.Proofs.Ytidkdnlbecompac.mem
