import Derived.Test.YtmlgbglaifnhgaaTso9
import Derived.Test.YtmlgbglaifnhgaaTso4
import Derived.Maps.OwnSet
import Derived.Maps.Views
import Derived.StringKeys
import Derived.OwnWalkIn
namespace Go.Proofs.Ytmlgbglaifnhgaa.mem
open Go.ChangeShapes Go.WideShapes Go.ChangeAt Go.RowKit
open ints (hide unhide)
set_option linter.unusedVariables false

def hpB (t p : ByteArray) : Bool := decide (p.size ≤ t.size) && ((t.extract 0 p.size).toList == p.toList)
theorem hp_in (t p : ByteArray) (w : World) (ht : t.size ≤ 9223372036854775807) (hp : p.size ≤ 9223372036854775807) :
    Calls Try.prog 137 #[.string t, .string p] w fun e w' => e = .returned (.bool (hpB t p)) ∧ w' = w := by
  by_cases h : p.size ≤ t.size
  · have hb := hide (show hpB t p = ((t.extract 0 p.size).toList == p.toList) from by simp [hpB, h])
    have h1 : (p.size : Int) ≤ (t.size : Int) := by omega
    go_enter Try.func137, Try.ntmps137
    go_wp2
    go_ret
    rw [unhide hb]
    exact ⟨rfl, rfl⟩
  · have hb := hide (show hpB t p = false from by simp [hpB, h])
    have h1 : ¬ (p.size : Int) ≤ (t.size : Int) := by omega
    go_enter Try.func137, Try.ntmps137
    go_wp2
    go_ret
    rw [unhide hb]
    exact ⟨rfl, rfl⟩
theorem hp_any (t p : ByteArray) (w : World) (ht : t.size ≤ 9223372036854775807) (hp : p.size ≤ 9223372036854775807) :
    Calls Try.prog 124 #[.string t, .string p] w fun e w' => e = .returned (.bool (hpB t p)) ∧ w' = w := by
  go_enter Try.func124, Try.ntmps124
  go_wp2_with fail
  refine (hp_in _ _ _ ht hp).mono ?_
  rintro e w' ⟨rfl, rfl⟩
  go_wp2
  go_ret
  exact ⟨rfl, rfl⟩

theorem extract_list (s : ByteArray) (a b : Nat) : (s.extract a b).data.toList = (s.data.toList.drop a).take (b - a) := by
  rw [ByteArray.data_extract, Array.toList_extract]
theorem bytesZ_extract (s : ByteArray) (a b : Nat) : bytesZ (s.extract a b) = ((bytesZ s).drop a).take (b - a) := by
  unfold bytesZ
  rw [extract_list, List.map_take, List.map_drop]
theorem hp_fffd (s : ByteArray) (p : Nat) (h : p ≤ s.size) : hpB (s.extract p s.size) ⟨#[239, 191, 189]⟩ = decide (((bytesZ s).drop p).take 3 = [239, 191, 189]) := by
  have hz : (s.extract p s.size).size = s.size - p := by simp
  have hp3 : (⟨#[239, 191, 189]⟩ : ByteArray).size = 3 := rfl
  have hl : s.data.toList.length = s.size := by rw [Array.length_toList]; rfl
  unfold hpB
  rw [hz, hp3, ByteArray.toList_eq, ByteArray.toList_eq, extract_list, extract_list]
  rw [List.take_of_length_le (l := s.data.toList.drop p) (by simp)]
  unfold bytesZ
  rw [← List.map_drop]
  have hd : (s.data.toList.drop p).length = s.size - p := by rw [List.length_drop, hl]
  rw [← hd]
  generalize s.data.toList.drop p = L
  rw [Bool.eq_iff_iff]
  match L with
  | [] => simp
  | [a] => simp
  | [a, b] => simp
  | a :: b :: c :: r =>
    simp only [List.drop_zero, Nat.sub_zero, List.length_cons, List.take_succ_cons, List.take_zero, List.map_cons, Bool.and_eq_true, decide_eq_true_eq, beq_iff_eq, List.cons.injEq, and_true]
    constructor
    · rintro ⟨_, rfl, rfl, rfl⟩
      exact ⟨rfl, rfl, rfl⟩
    · rintro ⟨h1, h2, h3⟩
      refine ⟨by omega, ?_, ?_, ?_⟩
      all_goals apply UInt8.toNat_inj.1
      · show _ = 239
        omega
      · show _ = 191
        omega
      · show _ = 189
        omega
theorem put_fffd : putB 65533 = [239, 191, 189] := by decide
theorem hp_yes (s : ByteArray) (p : Nat) (h : p ≤ s.size) (ho : (oneL ((bytesZ s).drop p)).2 ≠ 0) (hc : (oneL ((bytesZ s).drop p)).1 = 65533) : hpB (s.extract p s.size) ⟨#[239, 191, 189]⟩ = true := by
  rw [hp_fffd s p h, decide_eq_true_iff]
  obtain ⟨h1, h2, h3⟩ := one_back _ (byt_drop (bytesZ_byt s) p) ho
  rw [hc, put_fffd] at h2
  rw [h2]
  rfl
theorem hp_no (s : ByteArray) (p : Nat) (h : p ≤ s.size) (ho : (oneL ((bytesZ s).drop p)).2 = 0) : hpB (s.extract p s.size) ⟨#[239, 191, 189]⟩ = false := by
  rw [hp_fffd s p h, decide_eq_false_iff_not]
  intro e
  have h1 : (oneL (putB 65533 ++ ((bytesZ s).drop p).drop 3)).2 = 3 := by rw [one_put 65533 (by unfold scP; omega)]; rfl
  rw [put_fffd, ← e, List.take_append_drop, ho] at h1
  cases h1
theorem below_iter (w : World) (s : ByteArray) (p : Nat) : Below w.heap.size w (w.iter s p) := (Below.refl _ _).alloc (Nat.le_refl _) _
set_option maxHeartbeats 1000000 in
theorem good_any (s : ByteArray) (w : World) (hs : s.size ≤ 9223372036854775807) :
    Calls Try.prog 110 #[.string s] w fun e w' => e = .returned (.int .i64 ((decZ (bytesZ s)).2 : Int)) ∧ Below w.heap.size w w' := by
  go_enter Try.func110, Try.ntmps110
  go_wp2
  go_loopw [3] (fun _ wr => ∃ pos f : Nat, wr = w.iter s pos ∧ pos ≤ s.size ∧ s.size - pos ≤ f ∧ Hid (pos + (decF f ((bytesZ s).drop pos)).2 = (decZ (bytesZ s)).2)) (fun _ wr => s.size - wr.iterPos w.heap.size)
  case atStart => exact ⟨0, (bytesZ s).length, rfl, Nat.zero_le _, by rw [bytesZ_len]; omega, hide (by simp [decZ])⟩
  case round =>
    obtain ⟨pos, f, rfl, hpl, hf, hr⟩ := hrel
    by_cases hp : pos < s.size
    · have hd := hide (decode_one s pos hp)
      obtain ⟨ch, wd, hdec⟩ : ∃ ch wd : Nat, Utf8.decode s pos = (ch, wd) := ⟨_, _, rfl⟩
      have hnx : ∀ ty, (Instr.next (.pointer (some ⟨w.heap.size, 0, none⟩)) true ty).run Try.prog (w.iter s pos) = .ok (.tuple #[.bool true, .int .i64 pos, .int .i32 (ch : Int)]) (w.iter s (pos + wd)) := fun ty => by
        have := run_next_any (P := Try.prog) w s pos ty hp
        rw [hdec] at this
        exact this
      rw [hdec] at hd
      have hex : (s.extract pos s.size).size ≤ 9223372036854775807 := by simp; omega
      by_cases ho : (oneL ((bytesZ s).drop pos)).2 = 0
      · have hd' := unhide hd
        rw [if_pos ho] at hd'
        simp only [Prod.mk.injEq] at hd'
        obtain ⟨rfl, rfl⟩ := hd'
        have hfin := hide (show (decZ (bytesZ s)).2 = pos from by have := unhide hr; rw [decF_end _ _ ho] at this; simpa using this.symm)
        have hh := hide (hp_no s pos (by omega) ho)
        clear hd hdec ho hr
        go_wp2_with fail
        refine (hp_any _ _ _ hex (by show 3 ≤ _; omega)).mono ?_
        rintro e w' ⟨rfl, rfl⟩
        rw [unhide hh]
        go_wp2
        go_ret
        rw [unhide hfin]
        exact ⟨rfl, below_iter _ _ _⟩
      · have hd' := unhide hd
        rw [if_neg ho] at hd'
        simp only [Prod.mk.injEq] at hd'
        obtain ⟨hch, hwd⟩ := hd'
        obtain ⟨f', rfl⟩ : ∃ f', f = f' + 1 := ⟨f - 1, by omega⟩
        obtain ⟨hsc, _, _⟩ := one_back _ (byt_drop (bytesZ_byt s) pos) ho
        have hle := oneL_le ((bytesZ s).drop pos)
        rw [List.length_drop, bytesZ_len] at hle
        have hstep := hide (show pos + wd + (decF f' ((bytesZ s).drop (pos + wd))).2 = (decZ (bytesZ s)).2 from by
          have := unhide hr
          rw [decF_go _ _ ho] at this
          simp only at this
          rw [← hwd, List.drop_drop] at this
          omega)
        have w1 : 1 ≤ wd := by omega
        have w2 : pos + wd ≤ s.size := by omega
        have hcz : (ch : Int) = (oneL ((bytesZ s).drop pos)).1 := by unfold scP at hsc; omega
        by_cases hff : ch = 65533
        · have hh := hide (hp_yes s pos (by omega) ho (by omega))
          have hb : ((ch : Int) == 65533) = true := by simp; omega
          clear hd hdec ho hr hch hwd hsc hcz hle hff
          go_wp2_with fail
          refine (hp_any _ _ _ hex (by show 3 ≤ _; omega)).mono ?_
          rintro e w' ⟨rfl, rfl⟩
          rw [unhide hh]
          go_wp2
          go_roundw
          case rel => exact ⟨pos + wd, f', rfl, w2, by omega, hstep⟩
          case measure => simp; omega
        · have hb : ((ch : Int) == 65533) = false := by simp; omega
          clear hd hdec ho hr hch hwd hsc hcz hle hff
          go_wp2
          go_roundw
          case rel => exact ⟨pos + wd, f', rfl, w2, by omega, hstep⟩
          case measure => simp; omega
    · have hfin := hide (show (decZ (bytesZ s)).2 = s.size from by
        have := unhide hr
        have e : (bytesZ s).drop pos = [] := List.drop_eq_nil_of_le (by rw [bytesZ_len]; omega)
        rw [decF_end _ _ (by rw [e]; rfl)] at this
        simp at this
        omega)
      have hnx : ∀ ty, (Instr.next (.pointer (some ⟨w.heap.size, 0, none⟩)) true ty).run Try.prog (w.iter s pos) = .ok (.tuple #[.bool false]) (w.iter s pos) := fun ty => run_next_end w s pos ty hp
      clear hr
      go_wp2
      go_ret
      rw [unhide hfin]
      exact ⟨rfl, below_iter _ _ _⟩
end Go.Proofs.Ytmlgbglaifnhgaa.mem
namespace Go.Proofs.Ytmlgbglaifnhgaa.mem
open Go.ChangeShapes Go.WideShapes Go.ChangeAt Go.RowKit
open ints (hide unhide)
set_option linter.unusedVariables false

theorem runes_flat : ∀ (zs : List Int) (s : ByteArray) (pre : List Int) (bound : Nat) (acc : Array Value), zs.all scB = true → bytesZ s = pre ++ zs.flatMap putB → zs.length ≤ bound →
    Conv.runesFrom s bound pre.length acc = acc ++ (zs.map (Value.int .i32)).toArray
  | [], s, pre, bound, acc, _, hb, _ => by
    have hz : pre.length = s.size := by rw [← bytesZ_len, hb]; simp
    cases bound with
    | zero => simp [Conv.runesFrom]
    | succ b => unfold Conv.runesFrom; rw [if_neg (by omega)]; simp
  | c :: zs, s, pre, 0, acc, _, _, hl => by simp at hl
  | c :: zs, s, pre, b + 1, acc, ha, hb, hl => by
    simp only [List.all_cons, Bool.and_eq_true] at ha
    have hc := (scB_iff c).1 ha.1
    have hpl := putB_len c
    simp only [List.flatMap_cons] at hb
    have hlt : pre.length < s.size := by
      rw [← bytesZ_len, hb]; simp; omega
    have hd : (bytesZ s).drop pre.length = putB c ++ zs.flatMap putB := by rw [hb]; simp
    have hdec := decode_one s pre.length hlt
    rw [hd, one_put c hc] at hdec
    rw [if_neg (by simp only; omega)] at hdec
    unfold Conv.runesFrom
    rw [if_pos hlt, hdec]
    simp only
    have hcz : Int.ofNat c.toNat = c := by unfold scP at hc; show ((c.toNat : Nat) : Int) = c; omega
    rw [hcz]
    have ih := runes_flat zs s (pre ++ putB c) b (acc.push (.int .i32 c)) ha.2 (by rw [hb, List.append_assoc]) (by simp at hl; omega)
    rw [List.length_append] at ih
    rw [ih]
    simp
theorem flat_ge (zs : List Int) : zs.length ≤ (zs.flatMap putB).length := by
  induction zs with
  | nil => simp
  | cons a l ih => have := putB_len a; rw [List.flatMap_cons, List.length_append, List.length_cons]; omega
/-- The conversion to characters of the good beginning. -/
theorem runes_good (s : ByteArray) : Conv.runesFrom (s.extract 0 (decZ (bytesZ s)).2) (s.extract 0 (decZ (bytesZ s)).2).size 0 #[] = ((decZ (bytesZ s)).1.map (Value.int .i32)).toArray := by
  obtain ⟨h1, h2, h3, h4⟩ := decF_flat (bytesZ s).length (bytesZ s) (bytesZ_byt s)
  have hb : bytesZ (s.extract 0 (decZ (bytesZ s)).2) = [] ++ (decZ (bytesZ s)).1.flatMap putB := by
    rw [bytesZ_extract]
    simp only [List.drop_zero, Nat.sub_zero, List.nil_append]
    exact h1.symm
  have hl : (decZ (bytesZ s)).1.length ≤ (s.extract 0 (decZ (bytesZ s)).2).size := by
    have := flat_ge (decZ (bytesZ s)).1
    rw [← bytesZ_len, hb]
    simpa using this
  have := runes_flat (decZ (bytesZ s)).1 (s.extract 0 (decZ (bytesZ s)).2) [] _ #[] h3 hb hl
  simpa using this
theorem decZ_le (l : List Int) (h : Byt l) : (decZ l).2 ≤ l.length := (decF_flat l.length l h).2.1
theorem decZ_len (l : List Int) (h : Byt l) : (decZ l).1.length ≤ (decZ l).2 := by
  have h1 := flat_ge (decZ l).1
  have h2 := (decF_flat l.length l h).2.2.2
  exact Nat.le_trans h1 (Nat.le_of_eq h2)
theorem conv_runes_n (s : ByteArray) (w : World) (hs : (decZ (bytesZ s)).1.length ≤ 70368744177664) (g : Nat) (hg : g = (decZ (bytesZ s)).2) : ∃ V W2, (convert 9 121 (.string (s.extract 0 g))).run Try.prog w = .ok V W2 ∧
    W2.ownsRow w.heap.size 21 1 V (decZ (bytesZ s)).1.length ((decZ (bytesZ s)).1.map (Value.int .i32)) ∧ Below w.heap.size w W2 := by
  subst hg
  have hr := runes_good s
  have hsz : (Conv.runesFrom (s.extract 0 (decZ (bytesZ s)).2) (s.extract 0 (decZ (bytesZ s)).2).size 0 #[]).size = (decZ (bytesZ s)).1.length := by rw [hr]; simp
  have h := run_runes_of_string (P := Try.prog) w 9 121 21 (s.extract 0 (decZ (bytesZ s)).2) Try.underlying9 Try.underlying121 Try.underlying21 (by rw [hsz]; omega)
  rw [hsz, hr] at h
  refine ⟨_, _, h, ⟨by simp, .inr ⟨w.heap.size, _, _, rfl, Nat.le_refl _, heap_alloc_new w.drew _, grownCap_ge _ _ _ _, grownCap_le_maxLen _ _ _ _ (by unfold maxLen; omega), ?_, ?_⟩⟩, ?_⟩
  · have := grownCap_ge w (decZ (bytesZ s)).1.length 0 21
    simp
    omega
  · simp
  · exact (Below.refl _ _).drew.alloc (Nat.le_refl _) _
theorem conv_runes (s : ByteArray) (w : World) (hs : s.size ≤ 70368744177664) (g : Nat) (hg : g = (decZ (bytesZ s)).2) : ∃ V W2, (convert 9 121 (.string (s.extract 0 g))).run Try.prog w = .ok V W2 ∧
    W2.ownsRow w.heap.size 21 1 V (decZ (bytesZ s)).1.length ((decZ (bytesZ s)).1.map (Value.int .i32)) ∧ Below w.heap.size w W2 :=
  conv_runes_n s w (by
    have h1 := decZ_len (bytesZ s) (bytesZ_byt s)
    have h2 := decZ_le (bytesZ s) (bytesZ_byt s)
    rw [bytesZ_len] at h2
    omega) g hg
end Go.Proofs.Ytmlgbglaifnhgaa.mem
namespace Go.Proofs.Ytmlgbglaifnhgaa.mem
open Go.ChangeShapes Go.WideShapes Go.ChangeAt Go.RowKit
open ints (hide unhide)
set_option linter.unusedVariables false

theorem own_low {w : World} {base base' : Nat} {e : TypeId} {size : Nat} {v : Value} {n : Nat} {xs : List Value} (h : w.ownsRow base e size v n xs) (hb : base' ≤ base) : w.ownsRow base' e size v n xs :=
  ⟨h.1, h.2.imp id (fun ⟨g', r1, r2, r3, r4, r5⟩ => ⟨g', r1, r2, r3, Nat.le_trans hb r4, r5⟩)⟩
theorem clean_str (s : ByteArray) (w : World) (hs : s.size ≤ 9223372036854775807) :
    Calls Try.prog 83 #[.string s] w fun e w' => e = .returned (.bool ((((decZ (bytesZ s)).2 : Nat) : Int) == (s.size : Int))) ∧ Below w.heap.size w w' := by
  obtain ⟨g, hg⟩ : ∃ g, g = (decZ (bytesZ s)).2 := ⟨_, rfl⟩
  have G := hide (good_any s w hs)
  rw [← hg] at G ⊢
  clear hg
  go_enter Try.func83, Try.ntmps83
  go_wp2_with fail
  refine (unhide G).mono ?_
  rintro e w1 ⟨rfl, hb1⟩
  clear G
  go_wp2
  go_ret
  exact ⟨rfl, hb1⟩
end Go.Proofs.Ytmlgbglaifnhgaa.mem
namespace Go.Proofs.Ytmlgbglaifnhgaa.og
open Go.ChangeShapes Go.WideShapes Go.ChangeAt Go.RowKit
open vl hiding cB cFl cS cF cI cK cIt
open mem (dec_fin dec_inf dec_nan word_of order_fin order_word vR vR_mono sv)
set_option linter.unusedVariables false
set_option linter.unusedSimpArgs false
/-- no number, or one without bound -/
def badF (x : Nat) : Bool := decide (9218868437227405312 ≤ x % 9223372036854775808)
theorem sub_fin (x : Nat) (h : x < 18446744073709551616) (hb : badF x = false) : floatBits .sub .f64 x x = some 0 := by
  have hw := word_of x h
  obtain ⟨r, hr⟩ : ∃ r, r = x % 9223372036854775808 := ⟨_, rfl⟩
  obtain ⟨ng, hng⟩ : ∃ ng, ng = decide (9223372036854775808 ≤ x) := ⟨_, rfl⟩
  unfold badF at hb
  rw [← hr] at hb
  rw [← hr, ← hng] at hw
  have hl : r < 9218868437227405312 := by simpa using hb
  rw [← hw]
  show (((FloatKind.f64.decode _).sum (FloatKind.f64.decode _).opposite).map FloatKind.f64.format.write) = some 0
  rw [dec_fin ng r hl]
  simp only [Ieee.Datum.opposite, Ieee.Datum.sum]
  have ht : ∀ u : Nat, Ieee.signed ng (mem.mantR r) u + Ieee.signed (!ng) (mem.mantR r) u = 0 := fun u => by
    rw [mem.signed_eq, mem.signed_eq]
    unfold sv
    cases ng <;> simp <;> omega
  simp only [ht, if_true, Int.natAbs_zero, Option.map_some, Ieee.Format.write, Ieee.Format.nearest, if_true]
  cases ng <;> rfl
theorem sub_inf (x : Nat) (h : x < 18446744073709551616) (hb : badF x = true) (hn : nanF x = false) (t : TypeId) (w : World) : ∃ r, (FloatKind.f64.format.order r 0 != some Ordering.eq) = true ∧ (binOp .sub t (.float .f64 x) (.float .f64 x)).run Try.prog w = .ok (.float .f64 r) w.drew := by
  have hw := word_of x h
  obtain ⟨r, hr⟩ : ∃ r, r = x % 9223372036854775808 := ⟨_, rfl⟩
  obtain ⟨ng, hng⟩ : ∃ ng, ng = decide (9223372036854775808 ≤ x) := ⟨_, rfl⟩
  unfold badF at hb
  unfold nanF at hn
  rw [← hr] at hb hn
  rw [← hr, ← hng] at hw
  obtain rfl : r = 9218868437227405312 := by simp at hb hn; omega
  have hs : FloatKind.f64.format.sub x x = none := by
    rw [← hw]
    show (((FloatKind.f64.decode _).sum (FloatKind.f64.decode _).opposite).map FloatKind.f64.format.write) = none
    rw [dec_inf]
    cases ng <;> rfl
  obtain ⟨q, hq⟩ : ∃ q, q = (Question.nanBits .f64 x x).cut (w.tape w.drawn (Question.nanBits .f64 x x)) := ⟨_, rfl⟩
  refine ⟨q, ?_, ?_⟩
  · have hq2 : ∃ s k : Nat, q = Ieee.double.word (s == 1) (9218868437227405312 + 1 + k) ∧ k < 4503599627370495 := by
      refine ⟨w.tape w.drawn (Question.nanBits .f64 x x) % 2, (w.tape w.drawn (Question.nanBits .f64 x x) / 2) % 4503599627370495, ?_, Nat.mod_lt _ (by omega)⟩
      rw [hq]
      generalize w.tape w.drawn (Question.nanBits .f64 x x) = T
      show (T % 2) * 9223372036854775808 + 9218868437227405312 + 1 + (T / 2) % 4503599627370495 = _
      rcases Nat.mod_two_eq_zero_or_one T with e | e
      · rw [e]; show _ = 9218868437227405312 + 1 + _; omega
      · rw [e]; show _ = 9223372036854775808 + (9218868437227405312 + 1 + _); omega
    obtain ⟨s, k, e, hk⟩ := hq2
    rw [e]
    obtain ⟨f, hf⟩ := dec_nan (s == 1) (9218868437227405312 + 1 + k) (by omega) (by omega)
    show (!((FloatKind.f64.decode _).order (FloatKind.f64.decode _) == some Ordering.eq)) = true
    rw [hf]
    rfl
  · simp [binOp, Op.floatArith, hs, Question.forced, ← hq]
theorem gt_max (r : Nat) (h : r ≤ 9218868437227405312) : (FloatKind.f64.format.order r 9218868437227405311 == some Ordering.gt) = decide (9218868437227405312 ≤ r) := by
  have e1 : r = Ieee.double.word false r := rfl
  by_cases hr : r = 9218868437227405312
  · subst hr
    rfl
  · rw [decide_eq_false (by omega)]
    have := order_word false false r 9218868437227405311 (by omega) (by omega)
    have e2 : FloatKind.f64.format.order r 9218868437227405311 = some (compare (sv false (vR r)) (sv false (vR 9218868437227405311))) := this
    rw [e2]
    have hle : vR r ≤ vR 9218868437227405311 := mem.vR_mono_le (by omega)
    have : compare (sv false (vR r)) (sv false (vR 9218868437227405311)) ≠ Ordering.gt := by
      intro hc
      rw [Int.compare_eq_gt] at hc
      unfold sv at hc
      simp at hc
      omega
    cases hc : compare (sv false (vR r)) (sv false (vR 9218868437227405311)) with
    | gt => exact absurd hc this
    | lt => rfl
    | eq => rfl
theorem andNotSign (b : Nat) (h : b < 18446744073709551616) : bits .andNot .u64 (b : Int) 9223372036854775808 = ((b % 9223372036854775808 : Nat) : Int) := by
  have := u64_andNot_nat b 9223372036854775808 (by omega) (by omega)
  rw [show 18446744073709551615 - 9223372036854775808 = 9223372036854775807 from rfl, nat_mask63] at this
  exact this
theorem run_frombits (x : Int) (w : World) : (callFunc 123 #[.int .u64 x]).run Try.prog w = .ok (.value (.float .f64 x.toNat)) w := by
  rw [run_callFunc_extern (e := Extern.MathFloatBits.float64frombits) Try.func123 (by kernel_rfl) (by kernel_rfl) (by kernel_rfl) (by kernel_rfl)]
  rfl
theorem abs_ok (x : Nat) (w : World) (h : x < 18446744073709551616) : Calls Try.prog 109 #[.float .f64 x] w fun e w' => e = .returned (.float .f64 (x % 9223372036854775808)) ∧ w = w' := by
  have T1 := run_tobits x w
  have e2 := andNotSign x h
  have T2 := run_frombits ((x % 9223372036854775808 : Nat) : Int) w
  rw [Int.toNat_natCast] at T2
  generalize x % 9223372036854775808 = r at *
  go_enter Try.func109, Try.ntmps109
  go_wp2
  go_ret
  exact ⟨rfl, rfl⟩
theorem isInf_ok (x : Nat) (w : World) (h : x < 18446744073709551616) (hn : nanF x = false) : Calls Try.prog 82 #[.float .f64 x, .int .i64 0] w fun e w' => e = .returned (.bool (badF x)) ∧ w = w' := by
  have A := vl.hide (fun W => abs_ok x W h)
  have hg := gt_max (x % 9223372036854775808) (by unfold nanF at hn; simpa using hn)
  have hB := vl.hide (show badF x = decide (9218868437227405312 ≤ x % 9223372036854775808) from rfl)
  clear hn h
  generalize x % 9223372036854775808 = r at *
  rw [← vl.unhide hB] at hg
  clear hB
  generalize badF x = B at *
  go_enter Try.func82, Try.ntmps82
  go_wp2_with fail
  refine (vl.unhide A _).mono ?_
  rintro e w1 ⟨rfl, rfl⟩
  clear A
  go_wp2
  go_ret
  exact ⟨by first | rfl | (rw [← hg]; rfl), rfl⟩
end Go.Proofs.Ytmlgbglaifnhgaa.og
namespace Go.Proofs.Ytmlgbglaifnhgaa.og
open Go.ChangeShapes Go.WideShapes Go.ChangeAt Go.RowKit
open vl hiding cB cFl cS cF cI cK cIt
open stp (St Pth St3)
set_option linter.unusedVariables false
set_option linter.unusedSimpArgs false
/-- are these bytes well formed? -/
def clnS (s : ByteArray) : Bool := (((mem.decZ (mem.bytesZ s)).2 : Nat) : Int) == (s.size : Int)
/-- the first fault among names -/
def nmF : List (List UInt8) → List ByteArray → Int
  | _, [] => 0
  | seen, s :: r => if clnS s = false then 1 else if seen.contains s.data.toList = true then 5 else nmF (seen ++ [s.data.toList]) r
/-- what is wrong with a part by itself -/
def flw : Vl → Int
  | .mk kd _ _ f tx _ _ fls => if kd < 0 ∨ 7 ≤ kd then 2 else if kd = 3 then (if badF f = true then 6 else 0) else if kd = 4 then (if clnS tx = false then 1 else 0) else if kd = 6 then nmF [] (fls.list.map (·.1)) else 0
theorem flat_congr {α β : Type} {f g : α → List β} : ∀ {l : List α}, (∀ a ∈ l, f a = g a) → l.flatMap f = l.flatMap g
  | [], _ => rfl
  | a :: l, h => by rw [List.flatMap_cons, List.flatMap_cons, h a (List.mem_cons_self ..), flat_congr (fun b hb => h b (List.mem_cons_of_mem _ hb))]
theorem pts_shift : ∀ (v : Vl) (p : List St), pts v p = (pts v []).map (fun q => (p ++ q.1, q.2)) := by
  refine Vl.all ?_
  intro kd b n f tx ty its fls hI hF p
  have hk := mem_kids (P := fun v => ∀ p : List St, pts v p = (pts v []).map (fun q => (p ++ q.1, q.2))) (kd := kd) (b := b) (n := n) (f := f) (tx := tx) (ty := ty) hI hF
  generalize Vl.mk kd b n f tx ty its fls = v at *
  rw [pts_kids v p, pts_kids v [], List.map_cons, List.append_nil, List.map_flatMap]
  congr 1
  refine flat_congr ?_
  intro q hq
  rw [hk q hq (p ++ [q.1]), hk q hq ([] ++ [q.1]), List.map_map]
  simp [Function.comp_def]
/-- the first part with a fault -/
def ffn (v : Vl) : Option (List St × Vl) := (pts v []).find? (fun q => flw q.2 != 0)
def ffP (v : Vl) : List St := match ffn v with | none => [] | some q => q.1
def ffE (v : Vl) : Int := match ffn v with | none => 0 | some q => flw q.2
theorem ffn_kids (v : Vl) : ffn v = if flw v = 0 then (kids v).findSome? (fun q => (ffn q.2).map (fun r => (q.1 :: r.1, r.2))) else some ([], v) := by
  unfold ffn
  rw [pts_kids v [], List.find?_cons]
  by_cases h : flw v = 0
  · rw [if_pos h]
    simp only [h, bne_self_eq_false]
    rw [List.find?_flatMap]
    congr 1
    funext q
    rw [pts_shift q.2 ([] ++ [q.1]), List.find?_map]
    simp [Function.comp_def]
  · rw [if_neg h]
    have : (flw v != 0) = true := by simpa using h
    simp only [this]
theorem ffE_none {v : Vl} (h : ffE v = 0) : ffn v = none := by
  unfold ffE at h
  cases hn : ffn v with
  | none => rfl
  | some q =>
    rw [hn] at h
    have := List.find?_some (show (pts v []).find? (fun q => flw q.2 != 0) = some q from hn)
    simp at this
    exact absurd h this
theorem ff_own {v : Vl} (h : flw v ≠ 0) : ffP v = [] ∧ ffE v = flw v := by
  have e := ffn_kids v
  rw [if_neg h] at e
  unfold ffP ffE
  rw [e]
  exact ⟨rfl, rfl⟩
theorem ff_done {v : Vl} (h : flw v = 0) (hk : ∀ q ∈ kids v, ffE q.2 = 0) : ffP v = [] ∧ ffE v = 0 := by
  have e := ffn_kids v
  rw [if_pos h, List.findSome?_eq_none_iff.2 (fun q hq => by rw [ffE_none (hk q hq)]; rfl)] at e
  unfold ffP ffE
  rw [e]
  exact ⟨rfl, rfl⟩
theorem ff_stop {v : Vl} (h : flw v = 0) {pre : List (St × Vl)} {q : St × Vl} {k : Nat} (hk : pre ++ [q] = (kids v).take k) (hp : ∀ x ∈ pre, ffE x.2 = 0) (hq : ffE q.2 ≠ 0) : ffP v = q.1 :: ffP q.2 ∧ ffE v = ffE q.2 := by
  have e := ffn_kids v
  rw [if_pos h, ← List.take_append_drop k (kids v), ← hk, List.append_assoc, List.findSome?_append, List.findSome?_eq_none_iff.2 (fun x hx => by rw [ffE_none (hp x hx)]; rfl), Option.none_or, List.singleton_append, List.findSome?_cons] at e
  cases hn : ffn q.2 with
  | none => unfold ffE at hq; rw [hn] at hq; exact absurd rfl hq
  | some r =>
    rw [hn] at e
    simp only [Option.map_some] at e
    unfold ffP ffE
    rw [e, hn]
    exact ⟨rfl, rfl⟩
theorem ff_find {v : Vl} {k : Nat} {q : List St × Vl} (hk : (pts v [])[k]? = some q) (hp : ∀ j x, j < k → (pts v [])[j]? = some x → flw x.2 = 0) (hq : flw q.2 ≠ 0) : ffP v = q.1 ∧ ffE v = flw q.2 := by
  have e : ffn v = some q := by
    unfold ffn
    have hs := List.take_append_drop k (pts v [])
    rw [← hs, List.find?_append]
    have h1 : ((pts v []).take k).find? (fun q => flw q.2 != 0) = none := by
      rw [List.find?_eq_none]
      intro x hx
      obtain ⟨j, hj, hjx⟩ := List.mem_take_iff_getElem.1 hx
      have := hp j x (by omega) (by rw [← hjx]; exact List.getElem?_eq_getElem _)
      simp [this]
    obtain ⟨hl, hv⟩ := List.getElem?_eq_some_iff.1 hk
    rw [h1, Option.none_or, List.drop_eq_getElem_cons hl, hv, List.find?_cons]
    have : (flw q.2 != 0) = true := by simpa using hq
    simp only [this]
  unfold ffP ffE
  rw [e]
  exact ⟨rfl, rfl⟩
theorem ff_none {v : Vl} (hp : ∀ j x, j < (pts v []).length → (pts v [])[j]? = some x → flw x.2 = 0) : ffP v = [] ∧ ffE v = 0 := by
  have e : ffn v = none := by
    unfold ffn
    rw [List.find?_eq_none]
    intro x hx
    obtain ⟨j, hj, rfl⟩ := List.mem_iff_getElem.1 hx
    simp [hp j _ hj (List.getElem?_eq_getElem hj)]
  unfold ffP ffE
  rw [e]
  exact ⟨rfl, rfl⟩
/-- a part's path is no longer than the parts are many -/
theorem pts_path : ∀ (v : Vl) (q : List St × Vl), q ∈ pts v [] → q.1.length < cnt v := by
  refine Vl.all ?_
  intro kd b n f tx ty its fls hI hF q hq
  have hk := mem_kids (P := fun v => ∀ q : List St × Vl, q ∈ pts v [] → q.1.length < cnt v) (kd := kd) (b := b) (n := n) (f := f) (tx := tx) (ty := ty) hI hF
  generalize Vl.mk kd b n f tx ty its fls = v at *
  rw [pts_kids v []] at hq
  rcases List.mem_cons.1 hq with rfl | hq
  · rw [cnt_kids]; simp; omega
  · rw [List.mem_flatMap] at hq
    obtain ⟨x, hx, hq⟩ := hq
    rw [pts_shift, List.mem_map] at hq
    obtain ⟨r, hr, rfl⟩ := hq
    have h1 := hk x hx r hr
    obtain ⟨j, hj, e⟩ := List.mem_iff_getElem.1 hx
    have h2 := cnt_kid (v := v) (k := j) (q := x) (by rw [← e]; exact List.getElem?_eq_getElem hj)
    simp
    omega
theorem ffP_len (v : Vl) : (ffP v).length < cnt v := by
  unfold ffP
  cases hn : ffn v with
  | none => rw [cnt_kids]; simp; omega
  | some q => exact pts_path v q (List.mem_of_find?_eq_some hn)
end Go.Proofs.Ytmlgbglaifnhgaa.og
namespace Go.Proofs.Ytmlgbglaifnhgaa.og
open Go.ChangeShapes Go.WideShapes Go.ChangeAt Go.RowKit
open vl hiding cB cFl cS cF cI cK cIt
open Go.Maps
set_option linter.unusedVariables false
set_option linter.unusedSimpArgs false
theorem lawS : Keyed Try.prog 9 := string_keyed Try.underlying9
theorem zeroU (w : World) : (zeroValue 146).run Try.prog w = .ok (.agg #[]) w := by kernel_rfl
theorem mapHint (n : Int) (w : World) : (Instr.makeMap 145 (some (.int .i64 n))).run Try.prog w = .ok (.map (some w.heap.size)) (w.alloc (.map #[] 0)) := by
  simp [Instr.makeMap, go_sem, run_underlying Try.underlying145]
theorem map_below {H : Type} {P : Program} {k : TypeId} {R : Value → Option (DataW H × List MemPlace)} {w w' : World} {b n : Nat} {D : DataW H} (h : w.ownsMap P k R b n D) (hb : Below w.heap.size w w') : w'.ownsMap P k R b n D := by
  have hlt := h.lt
  obtain ⟨es, clock, hh, r⟩ := h
  exact ⟨es, clock, (hb.block b hlt).trans hh, r⟩
def nms (fls : Fls) : List Lit := fls.list.map fun p => Lit.string p.1.data.toList
theorem nms_key (fls : Fls) (k : Nat) : ∀ x ∈ (nms fls).take k, WideAt.IsKeyLit x := by
  intro x hx
  have := List.mem_of_mem_take hx
  unfold nms at this
  rw [List.mem_map] at this
  obtain ⟨p, _, rfl⟩ := this
  trivial
def seenN (fls : Fls) (k : Nat) : List (List UInt8) := ((fls.list.map (·.1)).take k).map (fun s => s.data.toList)
theorem nms_has (fls : Fls) (k : Nat) (nm : ByteArray) : Maps.has (Maps.setOf (H := Unit) (.agg []) ((nms fls).take k)) (.string nm.data.toList) = (seenN fls k).contains nm.data.toList := by
  rw [Maps.has_setOf _ _ _ (nms_key fls k), List.contains_eq_any_beq]
  have e : (nms fls).take k = (seenN fls k).map Lit.string := by
    unfold nms seenN
    rw [← List.map_take, ← List.map_take, List.map_map, List.map_map]
    rfl
  rw [e, List.any_map]
  congr 1
  funext x
  show (Lit.string x).sameKey (.string nm.data.toList) = (nm.data.toList == x)
  by_cases h : x = nm.data.toList
  · subst h
    rw [WideAt.sameKey_self (a := Lit.string nm.data.toList) (by trivial)]
    simp
  · rw [Maps.sameKey_ne (fun e => h (by cases e; rfl))]
    symm
    simpa using fun e => h e.symm
theorem nms_snoc {fls : Fls} {k : Nat} {x : Lit} (hx : (nms fls)[k]? = some x) : Maps.setOf (H := Unit) (.agg []) ((nms fls).take (k + 1)) = (Maps.setOf (.agg []) ((nms fls).take k)).put x (.agg []) := by
  rw [List.take_add_one, hx, ← Maps.setOf_snoc]; rfl
theorem nmF_step {fls : Fls} {k : Nat} {nm : ByteArray} {v : Vl} (hg : fls.list[k]? = some (nm, v)) : nmF (seenN fls k) ((fls.list.map (·.1)).drop k) = if clnS nm = false then 1 else if (seenN fls k).contains nm.data.toList = true then 5 else nmF (seenN fls (k + 1)) ((fls.list.map (·.1)).drop (k + 1)) := by
  obtain ⟨hk, e⟩ := List.getElem?_eq_some_iff.1 hg
  have hk' : k < (fls.list.map (·.1)).length := by simpa using hk
  have e' : (fls.list.map (·.1))[k] = nm := by simp [e]
  rw [List.drop_eq_getElem_cons hk', e', nmF]
  have hs : seenN fls (k + 1) = seenN fls k ++ [nm.data.toList] := by
    unfold seenN
    rw [List.take_add_one, List.getElem?_eq_getElem hk', e', List.map_append]
    rfl
  rw [hs]
theorem clean_ok (s : ByteArray) (w : World) (hs : s.size ≤ 9223372036854775807) : Calls Try.prog 83 #[.string s] w fun e w' => e = .returned (.bool (clnS s)) ∧ Below w.heap.size w w' := mem.clean_str s w hs
set_option maxHeartbeats 4000000 in
set_option maxRecDepth 100000 in
theorem names_ok (fls : Fls) (a : Option Addr) (n c : Nat) (w : World) (h : FlsAt w fls a n) (hn : n ≤ 1099511627776) :
    Calls Try.prog 84 #[.slice a n c] w fun e w' => e = .returned (.int .i64 (nmF [] (fls.list.map (·.1)))) ∧ Below w.heap.size w w' := by
  have hmm := mapHint
  have hsf := storeF
  have hsz := FlsAt.len fls a n h
  obtain ⟨R, hR⟩ : ∃ R, nmF [] (fls.list.map (·.1)) = R := ⟨_, rfl⟩
  rw [hR]
  have HR := hide hR
  clear hR
  have HZ := hide hsz
  clear hsz
  go_enter Try.func84, Try.ntmps84
  go_wp2_with fail
  go_loopw [13] (fun vi wr => ∃ k : Nat, k ≤ n ∧ vi = .int .i64 k ∧ vl.Hid (nmF (seenN fls k) ((fls.list.map (·.1)).drop k) = R) ∧ wr.ownsMap Try.prog 9 unitElem w.heap.size k (Maps.setOf (H := Unit) (.agg []) ((nms fls).take k)) ∧ Below w.heap.size w wr ∧ w.heap.size + 1 ≤ wr.heap.size) (fun vi _ => n - (intOf vi).toNat)
  case atStart => exact ⟨0, Nat.zero_le _, rfl, hide (unhide HR), World.ownsMap_made _ _ _ _, (Below.refl _ _).alloc (Nat.le_refl _) _, by simp⟩
  case round =>
    obtain ⟨k, hk, rfl, hres, hown, hb, hs1⟩ := hrel
    by_cases hlt : k < n
    · obtain ⟨b, off, nm, v, cs, rfl, hg, hc0, hnm, hr, hv⟩ := FlsAt.get fls _ n h k hlt
      have hbw := World.block_lt_of_cell? w _ hc0
      have hbw : b < w.heap.size := hbw
      cases v with
      | mk kd bb ni f tx ty its fl =>
      unfold VlC at hv
      obtain ⟨ai, nI, ci, af, nf, cf, rfl, -⟩ := hv
      obtain ⟨r0, r1, r2, r3, r4, r5, r6, r7⟩ := hr.eight
      have d (j : Nat) (u : Value) (hj : w.cell? ⟨b, j, none⟩ = some u) : wr.cell? ⟨b, j, none⟩ = some u := (hb.cell (p := ⟨b, j, none⟩) hbw).trans hj
      have c0 := d _ _ hc0
      have c1 := d _ _ r0
      have c2 := d _ _ r1
      have c3 := d _ _ r2
      have c4 := d _ _ r3
      have c5 := d _ _ r4
      have c6 := d _ _ r5
      have c7 := d _ _ r6
      have c8 := d _ _ r7
      have hx : (nms fls)[k]? = some (.string nm.data.toList) := by simp [nms, hg]
      have hstep := nmF_step hg
      rw [unhide hres] at hstep
      have hhas := nms_has fls k nm
      have hsn := hide (nms_snoc hx)
      have hkey : keyOf Try.prog 9 (.string nm) = some (.string nm.data.toList) := Go.WideMaps.keyOf_string_mk Try.underlying9 hnm
      have U := hide (fun W => clean_ok nm W (by unfold maxLen at hnm; omega))
      generalize (seenN fls k).contains nm.data.toList = C at *
      generalize clnS nm = L at *
      have HS := hide hstep
      clear hstep hc0 r0 r1 r2 r3 r4 r5 r6 r7 hr hx hg d h hres
      have ki : (k : Int) < (n : Int) := by omega
      go_wp2_with fail
      refine (unhide U _).mono ?_
      rintro e w1 ⟨rfl, b1⟩
      clear U c0 c1 c2 c3 c4 c5 c6 c7 c8
      have hs2 : wr.heap.size + 1 ≤ w1.heap.size := by have := b1.size; simp at this; omega
      have x0 : w1.cell? ⟨wr.heap.size, 0, none⟩ = some (.string nm) := by
        rw [b1.cell (p := ⟨wr.heap.size, 0, none⟩) (by simp)]
        simp
      have x1 : ∀ o, (w1.alloc o).cell? ⟨wr.heap.size, 0, none⟩ = some (.string nm) := fun o => (((Below.refl w1.heap.size w1).alloc (Nat.le_refl _) o).cell (p := ⟨wr.heap.size, 0, none⟩) (show wr.heap.size < w1.heap.size by omega)).trans x0
      have hown1 := map_below (hown.alloc _) b1
      have hb1 : Below w.heap.size w w1 := (hb.alloc (by omega) _).trans (b1.mono (by simp; omega))
      have hsz1 : w.heap.size < w1.heap.size := by omega
      clear hown hb b1 hmm hsf
      cases L with
      | false =>
        go_wp2
        go_ret
        exact ⟨by rw [unhide HS]; rfl, hb1⟩
      | true =>
        cases C with
        | true =>
          go_wp2_with (first
            | (at_lookup; refine wpList_lookup_own_unit _ rfl _ _ 145 rfl 9 146 lawS Try.underlying145 (zeroU _) w.heap.size k _ rfl hown1 _ _ rfl hkey ?_; rw [hhas])
            | go_in)
          go_ret
          exact ⟨by rw [unhide HS]; rfl, hb1.alloc (by omega) _⟩
        | false =>
          go_wp2_with (first
            | (at_lookup; refine wpList_lookup_own_unit _ rfl _ _ 145 rfl 9 146 lawS Try.underlying145 (zeroU _) w.heap.size k _ rfl hown1 _ _ rfl hkey ?_; rw [hhas])
            | (at_mapUpdate; refine wpList_mapUpdate_own _ rfl _ _ _ 145 rfl 9 146 lawS Try.underlying145 (unitElem (H := Unit)) w.heap.size k _ rfl (hown1.alloc _) (by unfold maxLen; omega) _ _ _ rfl rfl hkey _ [] unitElem_mk ?_; intro w2 hown2 hgrow2)
            | go_in)
          have s2 := hgrow2.size
          simp at s2
          refine ⟨⟨k + 1, by omega, rfl, hide (by rw [unhide HS]; rfl), ?_, ?_, by omega⟩, ?_⟩
          · rw [unhide hsn]; exact hown2
          · exact (hb1.alloc (by omega) _).grown hgrow2 (by simp; omega) (fun j hj => by cases hj; exact Nat.le_refl _)
          · simp only [intOf]
            omega
    · have hfin : R = 0 := by
        have := unhide hres
        rw [List.drop_eq_nil_of_le (by rw [List.length_map, unhide HZ]; omega)] at this
        rw [← this, nmF]
      subst hfin
      go_wp2
      go_ret
      exact ⟨rfl, hb⟩
end Go.Proofs.Ytmlgbglaifnhgaa.og
namespace Go.Proofs.Ytmlgbglaifnhgaa.og
open Go.ChangeShapes Go.WideShapes Go.ChangeAt Go.RowKit
open vl hiding cB cFl cS cF cI cK cIt
set_option linter.unusedVariables false
set_option linter.unusedSimpArgs false
set_option maxHeartbeats 4000000 in
set_option maxRecDepth 100000 in
theorem own_ok (v : Vl) (cs : List Value) (w : World) (hv : VlC w v cs) (hsm : Small v) : Calls Try.prog 49 #[.agg cs.toArray] w fun e w' => e = .returned (.int .i64 (flw v)) ∧ Below w.heap.size w w' := by
  have hc0 := hv
  obtain ⟨kd, b, m, f, tx, ty, its, fls⟩ := v
  unfold VlC at hc0
  obtain ⟨ai, ni, ci, af, nf, cf, rfl, hI, hFl, hni, hnf, -, -, -, -, htx, -, -, -⟩ := hc0
  unfold Small at hsm
  obtain ⟨-, hlF, hf, -, -⟩ := hsm
  rw [FlsAt.len fls _ _ hFl] at hlF
  have htx : tx.size ≤ 9223372036854775807 := by unfold maxLen at htx; omega
  have hsf := storeF
  have N := hide (fun W (hb : Below w.heap.size w W) => names_ok fls af nf cf W (FlsAt.below hb _ _ _ hFl) hlF)
  clear hv hI hFl hni hnf hlF
  by_cases h3 : kd = 3
  · subst h3
    have HE := hide (show flw (.mk 3 b m f tx ty its fls) = if badF f = true then 6 else 0 by simp [flw])
    have NA := hide (fun W => isNaN_any f W hf)
    cases hn : nanF f with
    | true =>
      have hb : badF f = true := by unfold nanF at hn; unfold badF; simp at hn ⊢; omega
      have HE := hide (show flw (.mk 3 b m f tx ty its fls) = 6 by rw [unhide HE, if_pos hb])
      rw [hn] at NA
      clear hn hb N
      go_enter Try.func49, Try.ntmps49
      go_wp2_with fail
      refine (unhide NA _).mono ?_
      rintro e w1 ⟨rfl, rfl⟩
      go_wp2
      go_ret
      exact ⟨by rw [unhide HE]; try rfl, (Below.refl _ _).alloc (Nat.le_refl _) _⟩
    | false =>
      have IA := hide (fun W => isInf_ok f W hf hn)
      rw [hn] at NA
      clear hn N
      generalize badF f = B at *
      go_enter Try.func49, Try.ntmps49
      go_wp2_with fail
      refine (unhide NA _).mono ?_
      rintro e w1 ⟨rfl, rfl⟩
      go_wp2_with fail
      refine (unhide IA _).mono ?_
      rintro e w1 ⟨rfl, rfl⟩
      cases B with
      | true =>
        go_wp2
        go_ret
        exact ⟨by rw [unhide HE]; try rfl, (Below.refl _ _).alloc (Nat.le_refl _) _⟩
      | false =>
        go_wp2
        go_ret
        exact ⟨by rw [unhide HE]; try rfl, (Below.refl _ _).alloc (Nat.le_refl _) _⟩
  by_cases h4 : kd = 4
  · subst h4
    have HE := hide (show flw (.mk 4 b m f tx ty its fls) = if clnS tx = false then 1 else 0 by simp [flw])
    have U := hide (fun W => clean_ok tx W htx)
    generalize clnS tx = B at *
    clear N h3
    go_enter Try.func49, Try.ntmps49
    go_wp2_with fail
    refine (unhide U _).mono ?_
    rintro e w1 ⟨rfl, b1⟩
    have b2 : Below w.heap.size w w1 := ((Below.refl _ _).alloc (Nat.le_refl _) _).trans (b1.mono (by simp))
    clear U b1
    cases B with
    | true =>
      go_wp2
      go_ret
      exact ⟨by rw [unhide HE]; try rfl, b2⟩
    | false =>
      go_wp2
      go_ret
      exact ⟨by rw [unhide HE]; try rfl, b2⟩
  by_cases h6 : kd = 6
  · subst h6
    have HE := hide (show flw (.mk 6 b m f tx ty its fls) = nmF [] (fls.list.map (·.1)) by simp [flw])
    generalize nmF [] (fls.list.map (·.1)) = R at *
    clear h3 h4
    go_enter Try.func49, Try.ntmps49
    go_wp2_with fail
    refine (unhide N _ ((Below.refl _ _).alloc (Nat.le_refl _) _)).mono ?_
    rintro e w1 ⟨rfl, b1⟩
    have b2 : Below w.heap.size w w1 := ((Below.refl _ _).alloc (Nat.le_refl _) _).trans (b1.mono (by simp))
    clear N b1
    go_wp2
    go_ret
    exact ⟨by rw [unhide HE]; try rfl, b2⟩
  clear N
  by_cases ho : kd = 0 ∨ kd = 1 ∨ kd = 2 ∨ kd = 5
  · have HE := hide (show flw (.mk kd b m f tx ty its fls) = 0 by rw [flw, if_neg (by omega), if_neg h3, if_neg h4, if_neg h6])
    rcases ho with rfl | rfl | rfl | rfl
    all_goals
      clear h3 h4 h6
      go_enter Try.func49, Try.ntmps49
      go_wp2
      go_ret
      exact ⟨by rw [unhide HE]; try rfl, (Below.refl _ _).alloc (Nat.le_refl _) _⟩
  · have HE := hide (show flw (.mk kd b m f tx ty its fls) = 2 by rw [flw, if_pos (by omega)])
    have q0 : (kd == 0) = false := by simp; omega
    have q1 : (kd == 1) = false := by simp; omega
    have q2 : (kd == 2) = false := by simp; omega
    have q3 : (kd == 3) = false := by simp; omega
    have q4 : (kd == 4) = false := by simp; omega
    have q5 : (kd == 5) = false := by simp; omega
    have q6 : (kd == 6) = false := by simp; omega
    clear h3 h4 h6 ho
    go_enter Try.func49, Try.ntmps49
    go_wp2
    go_ret
    exact ⟨by rw [unhide HE]; try rfl, (Below.refl _ _).alloc (Nat.le_refl _) _⟩
end Go.Proofs.Ytmlgbglaifnhgaa.og
namespace Go.Proofs.Ytmlgbglaifnhgaa.og
open Go.ChangeShapes Go.WideShapes Go.ChangeAt Go.RowKit Go.Shelf
open vl hiding cB cFl cS cF cI cK cIt
open stp (St Pth St3)
attribute [local go_sem] Oper.semAt_some
set_option linter.unusedVariables false
set_option linter.unusedSimpArgs false
theorem wp_lgIn {F : Fence} {fn : Nat} {W w : World} {l : List St} {sl : Value} {ops : Array Oper} {rest : List Oper} {o : Oper} {a : Act} {Q : Exit → Act → World → Prop} (hG : GrS W.heap.size l sl w) (hB : Gb W w) (hgd : o.guard = none) (s x : Operand)
    (ho : o.op = .call { callee := .builtin .append, args := #[s, x], argTypes := #[29, 29] }) (hs : a.eval s = sl) (t : St) (N : Nat) (hN : N = w.heap.size) (hx : a.eval x = .slice (some ⟨N, 0, none⟩) 1 1) (hn : l.length + 1 ≤ 1048577)
    (h : ∀ aj nj cj w', GrS W.heap.size (l ++ [t]) (.slice aj nj cj) w' → Gb W w' → wpListIn F fn Try.prog ops Q rest (a.put o.dst (.slice aj nj cj)) w') : wpListIn F fn Try.prog ops Q (o :: rest) a (w.alloc (.cells (stC t).toArray 34)) := by
  obtain ⟨i, z, hi, hz, hsz, hb, hc⟩ := infoSz
  have hlt := hG.lt
  have hsB := hB.size
  subst hN
  obtain ⟨xss, hrow, hol⟩ := hG
  refine wpListIn_append_own _ hgd s x _ ho W.heap.size 34 i z 3 32 Try.underlying29 hi hz hsz hb hc (by omega) sl l.length xss.flatten hs (World.ownsRow.alloc hrow _) ⟨w.heap.size, 0, none⟩ 1 1 (stC t) hx rfl (fun j u hu => by
    rw [Addr.add_mid, Nat.zero_add, World.cell?_alloc_at _ _ _ _ rfl]; simpa using hu) (by simp [stC, Value.oneCell']) (by unfold maxLen; omega) (by omega) (by simp; omega) ?_
  intro v' w' hown hgr _
  have hG' : GrS W.heap.size (l ++ [t]) v' w' := ⟨xss ++ [stC t], by simpa using hown, P2.snoc (R := fun s cs => cs = stC s) rfl hol⟩
  obtain ⟨aj, cj, rfl⟩ := hG'.form
  exact h aj _ cj w' hG' (Below.trans hB (((Below.refl _ _).alloc hsB _).grown hgr (by simp; omega) (fun q hq => (hlt q hq).1)))
/-- tree.firstFault at a value -/
def FfAt (v : Vl) : Prop := ∀ (cs : List Value) (w : World), VlC w v cs → cnt v ≤ 1048576 → Calls Try.prog 24 #[.agg cs.toArray] w fun e w' => ∃ aj nj cj, e = .returned (.tuple #[.slice aj nj cj, .int .i64 (ffE v)]) ∧ GrS w.heap.size (ffP v).reverse (.slice aj nj cj) w' ∧ Below w.heap.size w w'
theorem GrV.kept' {E : Type} {R : E → List Value → Prop} {t : TypeId} {size B : Nat} {l : List E} {sl : Value} {w w' : World} {row : Option Nat} (h : GrV R t size B l sl w) (hg : w.grownBy w' row) (hr : ∀ r, row = some r → ∃ o : Obj, w.heap[r]? = some o ∧ o.isCells = false) : GrV R t size B l sl w' := by
  refine h.kept hg ?_
  obtain ⟨xss, h1, -⟩ := h
  rcases h1.2 with ⟨rfl, -⟩ | ⟨g, cap, cur, rfl, -, hh, -⟩
  · exact .inl rfl
  · refine .inr (fun e => ?_)
    obtain ⟨o, ho, hc⟩ := hr g e.symm
    rw [hh] at ho
    cases ho
    cases hc
theorem ff_results (tmps : Array Value) (W : World) (B1 B2 : Nat) (aj : Option Addr) (nj cj : Nat) (x : Int) (t1 : tmps[2]?.getD undef = .pointer (some ⟨B1, 0, none⟩)) (t2 : tmps[3]?.getD undef = .pointer (some ⟨B2, 0, none⟩)) (c1 : W.cell? ⟨B1, 0, none⟩ = some (.slice aj nj cj)) (c2 : W.cell? ⟨B2, 0, none⟩ = some (.int .i64 x)) :
    (results Try.f24 tmps).run Try.prog W = .ok (.tuple #[.slice aj nj cj, .int .i64 x]) W := by
  simp [results, Try.f24, go_sem, t1, t2, c1, c2]
set_option maxRecDepth 100000 in
set_option maxHeartbeats 4000000 in
theorem ff_step (v : Vl) (hsm : Small v) (ih : ∀ p ∈ kids v, FfAt p.2) : FfAt v := by
  intro cs w hv hcn
  have OW := hide (fun W (hb : Below w.heap.size w W) => own_ok v cs W (VlC.below hb _ _ hv) hsm)
  have hc0 := hv
  obtain ⟨kd, b, m, f, tx, ty, its, fls⟩ := v
  unfold VlC at hc0
  obtain ⟨ai, ni, ci, af, nf, cf, rfl, -⟩ := hc0
  have hsf := storeF
  refine (callsIn_wide (n := 8)).1 ?_
  refine callsIn_of_wp_marks Try.func24 rfl trivial ?_ rfl
  simp only [Try.ntmps24, List.size_toArray, List.length_cons, List.length_nil, Nat.reduceAdd, Nat.reduceSub, Array.replicate_succ, Array.replicate_zero, List.push_toArray, List.append_toArray, List.nil_append, List.cons_append]
  gi_wp2_with fail
  obtain ⟨W3, hW3⟩ : ∃ W3, W3 = ((w.alloc (.cells #[Value.int IntKind.i64 kd, Value.bool b, Value.int IntKind.i64 m, Value.float FloatKind.f64 f, Value.string tx, Value.string ty, Value.slice ai ni ci, Value.slice af nf cf] 27)).alloc (.cells #[.slice none 0 0] 29)).alloc (.cells #[.int .i64 0] 30) := ⟨_, rfl⟩
  have hB3 : Below w.heap.size w W3 := by rw [hW3]; exact (((Below.refl _ _).alloc (Nat.le_refl _) _).alloc (by simp) _).alloc (by simp; omega) _
  have s3 : W3.heap.size = w.heap.size + 3 := by rw [hW3]; simp
  have q1 : Boxed W3 (w.heap.size + 1) 29 (.slice none 0 0) := by rw [hW3]; have := (Boxed.new (w.alloc (.cells #[Value.int IntKind.i64 kd, Value.bool b, Value.int IntKind.i64 m, Value.float FloatKind.f64 f, Value.string tx, Value.string ty, Value.slice ai ni ci, Value.slice af nf cf] 27)) 29 (.slice none 0 0)).alloc (.cells #[.int .i64 0] 30); simpa using this
  have q2 : Boxed W3 (w.heap.size + 1 + 1) 30 (.int .i64 0) := by rw [hW3]; have := (Boxed.new ((w.alloc (.cells #[Value.int IntKind.i64 kd, Value.bool b, Value.int IntKind.i64 m, Value.float FloatKind.f64 f, Value.string tx, Value.string ty, Value.slice ai ni ci, Value.slice af nf cf] 27)).alloc (.cells #[.slice none 0 0] 29)) 30 (.int .i64 0)); simpa using this
  have rV : W3.rangeAt w.heap.size 0 [Value.int IntKind.i64 kd, Value.bool b, Value.int IntKind.i64 m, Value.float FloatKind.f64 f, Value.string tx, Value.string ty, Value.slice ai ni ci, Value.slice af nf cf] := fun j x hx => by
    have h0 : (w.alloc (.cells #[Value.int IntKind.i64 kd, Value.bool b, Value.int IntKind.i64 m, Value.float FloatKind.f64 f, Value.string tx, Value.string ty, Value.slice ai ni ci, Value.slice af nf cf] 27)).cell? ⟨w.heap.size, j, none⟩ = some x := by rw [World.cell?_alloc_at _ _ _ _ rfl]; simpa using hx
    have hb : Below (w.heap.size + 1) (w.alloc (.cells #[Value.int IntKind.i64 kd, Value.bool b, Value.int IntKind.i64 m, Value.float FloatKind.f64 f, Value.string tx, Value.string ty, Value.slice ai ni ci, Value.slice af nf cf] 27)) W3 := by rw [hW3]; exact ((Below.refl _ _).alloc (by simp) _).alloc (by simp) _
    rw [Nat.zero_add]
    exact (hb.cell (p := ⟨w.heap.size, j, none⟩) (Nat.lt_succ_self _)).trans h0
  rw [← hW3]
  clear hW3
  refine ⟨trivial, ?_⟩
  gi_at_call 49
  refine (callsIn_wide.2 (unhide OW W3 hB3)).mono ?_
  rintro e w1 ⟨rfl, b1⟩
  have hB1 : Below w.heap.size w w1 := hB3.trans (b1.mono (by omega))
  have s1 : w.heap.size + 3 ≤ w1.heap.size := by have := b1.size; omega
  have q1 : Boxed w1 (w.heap.size + 1) 29 (.slice none 0 0) := (b1.block _ q1.lt).trans q1
  have q2 : Boxed w1 (w.heap.size + 1 + 1) 30 (.int .i64 0) := (b1.block _ q2.lt).trans q2
  have rV1 : w1.rangeAt w.heap.size 0 [Value.int IntKind.i64 kd, Value.bool b, Value.int IntKind.i64 m, Value.float FloatKind.f64 f, Value.string tx, Value.string ty, Value.slice ai ni ci, Value.slice af nf cf] := fun j x hx => (b1.cell (p := ⟨w.heap.size, 0 + j, none⟩) (show w.heap.size < W3.heap.size by omega)).trans (rV j x hx)
  clear OW b1 rV hB3 s3
  have c1 := q1.cell
  have c2 := q2.cell
  have f1 := q1.frozen
  have f2 := q2.frozen
  by_cases hbad : flw (.mk kd b m f tx ty its fls) = 0
  · rw [hbad]
    have HB := hide hbad
    clear hbad
    obtain ⟨z0, z1, z2, z3, z4, z5, z6, z7⟩ := Row8.eight rV1
    simp only [Nat.zero_add] at z1 z2 z3 z4 z5 z6 z7
    gi_wp2_with (refine ⟨trivial, ?_⟩; gi_at_call 37; refine (children_in Fence.wide _ trivial rfl _ _).mono ?_; rintro e w' ⟨rfl, rfl⟩)
    obtain ⟨W0, hW0⟩ : ∃ W0, W0 = w1.alloc (.cells #[Value.int IntKind.i64 kd, Value.bool b, Value.int IntKind.i64 m, Value.float FloatKind.f64 f, Value.string tx, Value.string ty, Value.slice ai ni ci, Value.slice af nf cf] 27) := ⟨_, rfl⟩
    have hB0 : Below w.heap.size w W0 := by rw [hW0]; exact hB1.alloc hB1.size _
    have s0 : W0.heap.size = w1.heap.size + 1 := by rw [hW0]; simp
    have q1 : Boxed W0 (w.heap.size + 1) 29 (.slice none 0 0) := by rw [hW0]; exact q1.alloc _
    have q2 : Boxed W0 (w.heap.size + 1 + 1) 30 (.int .i64 0) := by rw [hW0]; exact q2.alloc _
    have rV : W0.rangeAt w1.heap.size 0 [Value.int IntKind.i64 kd, Value.bool b, Value.int IntKind.i64 m, Value.float FloatKind.f64 f, Value.string tx, Value.string ty, Value.slice ai ni ci, Value.slice af nf cf] := fun j x hx => by rw [hW0, Nat.zero_add, World.cell?_alloc_at _ _ _ _ rfl]; simpa using hx
    rw [← hW0]
    clear hW0 z0 z1 z2 z3 z4 z5 z6 z7 c1 c2 f1 f2 rV1
    have hsf2 := hide hsf
    clear hsf
    refine wpIn_rangeFunc_ownH (α := Kid w (kids (.mk kd b m f tx ty its fls))) rfl (by omega) (gf := 71) (lb := #[.pointer (some ⟨w1.heap.size, 0, none⟩)]) rfl trivial (enters_of Try.func71 (by kernel_rfl) rfl)
      (kids_stops Fence.wide (8 - 1) trivial rfl (by omega) w1.heap.size w (.mk kd b m f tx ty its fls) _ hv hsm W0 hB0 (by omega) rV) belowK_t (belowK_b (by omega)) (Below.refl _ _) (fun _ => rfl)
      (fun pre W => (Boxed W (w.heap.size + 1) 29 (.slice none 0 0) ∧ Boxed W (w.heap.size + 1 + 1) 30 (.int .i64 0)) ∧ Below w.heap.size w W ∧ ∀ x ∈ pre.map Kid.sv, ffE x.2 = 0)
      (fun c pre W => c = .ret ∧ ∃ (aj : Option Addr) (nj cj : Nat) (p : List (St × Vl)) (q : St × Vl), Boxed W (w.heap.size + 1) 29 (.slice aj nj cj) ∧ Boxed W (w.heap.size + 1 + 1) 30 (.int .i64 (ffE q.2)) ∧ GrS w.heap.size ((ffP q.2).reverse ++ [q.1]) (.slice aj nj cj) W ∧ Below w.heap.size w W ∧ pre.map Kid.sv = p ++ [q] ∧ (∀ y ∈ p, ffE y.2 = 0) ∧ ffE q.2 ≠ 0)
      (fun s X Y row hs hg hr => ⟨⟨boxed_own (β := Unit) (w.heap.size + 1) 29 (fun _ => .slice none 0 0) () X Y row hs.1.1 hg (fun r e => (hr r e).2), boxed_own (β := Unit) (w.heap.size + 1 + 1) 30 (fun _ => .int .i64 0) () X Y row hs.1.2 hg (fun r e => (hr r e).2)⟩, ownFrom_below (β := Unit) (Nat.le_refl _) hB0.size () X Y row hs.2.1 hg hr, hs.2.2⟩)
      (fun c s X Y row hs hg hr => by
        obtain ⟨rfl, aj, nj, cj, p, q, h1, h2, h3, h4, h5⟩ := hs
        exact ⟨rfl, aj, nj, cj, p, q, boxed_own (β := Unit) (w.heap.size + 1) 29 (fun _ => .slice aj nj cj) () X Y row h1 hg (fun r e => (hr r e).2), boxed_own (β := Unit) (w.heap.size + 1 + 1) 30 (fun _ => .int .i64 (ffE q.2)) () X Y row h2 hg (fun r e => (hr r e).2), h3.kept' hg (fun r e => (hr r e).2), ownFrom_below (β := Unit) (Nat.le_refl _) hB0.size () X Y row h4 hg hr, h5⟩)
      ⟨⟨q1, q2⟩, hB0, by simp⟩
      (fun x a' W => ∃ Bs Bx, Bs < W.heap.size ∧ Bx < W.heap.size ∧ W.rangeAt Bs 0 (stC x.1.1) ∧ W.rangeAt Bx 0 x.1.2.2 ∧ a' = { tmps := #[.agg #[Value.int IntKind.i64 kd, Value.bool b, Value.int IntKind.i64 m, Value.float FloatKind.f64 f, Value.string tx, Value.string ty, Value.slice ai ni ci, Value.slice af nf cf], .pointer (some ⟨w.heap.size, 0, none⟩), .pointer (some ⟨w.heap.size + 1, 0, none⟩), .pointer (some ⟨w.heap.size + 1 + 1, 0, none⟩), .int .i64 0, .pointer (some ⟨Bs, 0, none⟩), .pointer (some ⟨Bx, 0, none⟩), undef, undef, .agg #[Value.int IntKind.i64 kd, Value.bool b, Value.int IntKind.i64 m, Value.float FloatKind.f64 f, Value.string tx, Value.string ty, Value.slice ai ni ci, Value.slice af nf cf], .int .i64 0, .int .i64 0, .bool false, undef, .agg #[Value.int IntKind.i64 kd, Value.bool b, Value.int IntKind.i64 m, Value.float FloatKind.f64 f, Value.string tx, Value.string ty, Value.slice ai ni ci, Value.slice af nf cf], .func (.func 71) #[] #[.pointer (some ⟨w1.heap.size, 0, none⟩)], .agg #[.string x.1.1.nm, .int .i64 x.1.1.ix, .bool x.1.1.it], .agg x.1.2.2.toArray, undef, undef, undef, undef, undef, undef, undef, undef, undef, undef, undef, undef], defers := [] })
      (fun x a' _ X Y row hs hg hr => by obtain ⟨Bs, Bx, h2, h3, h4, h5, h6⟩ := hs; exact ⟨Bs, Bx, Nat.lt_of_lt_of_le h2 hg.size, Nat.lt_of_lt_of_le h3 hg.size, fun j u hu => cell_kept (h4 j u hu) hg (fun r e => (hr r e).2), fun j u hu => cell_kept (h5 j u hu) hg (fun r e => (hr r e).2), h6⟩)
      ?assign ?body ?done ?stop
    case assign =>
      rintro l pre x W K ⟨⟨p1, p2⟩, hBW, hz⟩ hK
      obtain ⟨⟨s, u, us⟩, hu, hm⟩ := x
      have hu' : VlC w u us := hu
      obtain ⟨ukd, ub, um, uf, utx, uty, uits, ufls⟩ := u
      unfold VlC at hu'
      obtain ⟨uai, uni, uci, uaf, unf, ucf, rfl, -⟩ := hu'
      obtain ⟨nm, ix, it⟩ := s
      unfold Kid.enc
      have hsf := unhide hsf2
      clear ih hv
      gi_wp2
      have sB := hBW.size
      refine hK _ _ (((KeepsOthers.alloc _ _).from _).trans ((KeepsOthers.alloc _ _).from _)) (((Below.refl _ W).alloc sB _).alloc (by simp; omega) _) ⟨⟨(p1.alloc _).alloc _, (p2.alloc _).alloc _⟩, (hBW.alloc sB _).alloc (by simp; omega) _, hz⟩ ⟨W.heap.size, W.heap.size + 1, by simp; omega, by simp, fun j x hx => ?_, fun j x hx => ?_, rfl⟩
      · rw [Nat.zero_add]
        refine (((Below.refl (W.heap.size + 1) (W.alloc _)).alloc (by simp) _).cell (p := ⟨W.heap.size, j, none⟩) (Nat.lt_succ_self _)).trans ?_
        rw [World.cell?_alloc_at _ _ _ _ rfl]
        simpa [stC] using hx
      · rw [Nat.zero_add, World.cell?_alloc_at _ _ _ _ (by simp)]
        simpa using hx
    case body =>
      rintro l pre x a' W hl ⟨r, hr⟩ ⟨⟨p1, p2⟩, hBW, hz⟩ ⟨Bs, Bx, hBs, hBl, hrs, hrow, rfl⟩ hlt
      obtain ⟨⟨s, u, us⟩, hu, hm⟩ := x
      have hcu : cnt u ≤ 1048576 := by
        obtain ⟨j, hj, e⟩ := List.mem_iff_getElem.1 hm
        have := cnt_kid (v := .mk kd b m f tx ty its fls) (k := j) (q := (s, u)) (by rw [← e]; exact List.getElem?_eq_getElem hj)
        simp only at this
        omega
      have IH := hide (ih (s, u) hm us W (VlC.below hBW _ _ hu) hcu)
      have hpl := hide (show (ffP u).length < cnt u from ffP_len u)
      have HPre := hide (show (pre ++ [⟨(s, u, us), hu, hm⟩] : List (Kid w (kids (.mk kd b m f tx ty its fls)))).map Kid.sv = pre.map Kid.sv ++ [(s, u)] by rw [List.map_append]; rfl)
      generalize (pre ++ [⟨(s, u, us), hu, hm⟩] : List (Kid w (kids (.mk kd b m f tx ty its fls)))) = pre' at *
      have hu' : VlC w u us := hu
      have HZ := hide hz
      have hrs : W.rangeAt Bs 0 (stC s) := hrs
      have hrow : W.rangeAt Bx 0 us := hrow
      clear hlt ih hv hz
      generalize hE : ffE u = E at *
      generalize hP : ffP u = Pu at *
      have HE := hide hE
      have HP := hide hP
      clear hE hP
      obtain ⟨ukd, ub, um, uf, utx, uty, uits, ufls⟩ := u
      unfold VlC at hu'
      obtain ⟨uai, uni, uci, uaf, unf, ucf, rfl, -⟩ := hu'
      obtain ⟨nm, ix, it⟩ := s
      obtain ⟨z0, z1, z2, z3, z4, z5, z6, z7⟩ := Row8.eight hrow
      simp only [Nat.zero_add] at z1 z2 z3 z4 z5 z6 z7
      clear hrow
      gi_wp2_with fail
      refine ⟨trivial, ?_⟩
      gi_at_call 24
      refine (CallsIn.inRound l (callsIn_wide.2 (unhide IH))).mono ?_
      rintro e w2 ⟨aj, nj, cj, rfl, hG, b2⟩
      clear z0 z1 z2 z3 z4 z5 z6 z7 IH
      by_cases h0 : E = 0
      · subst h0
        gi_wp2
        refine ⟨keepsFrom_below b2, b2.mono hBW.size, ⟨(b2.block _ p1.lt).trans p1, (b2.block _ p2.lt).trans p2⟩, hBW.trans (b2.mono hBW.size), ?_⟩
        rw [unhide HPre]
        intro y hy
        rcases List.mem_append.1 hy with hy | hy
        · exact unhide HZ y hy
        · rw [List.mem_singleton.1 hy]; exact unhide HE
      · have hE0 : (E != 0) = true := by simpa using h0
        have k0 : w2.cell? ⟨Bs, 0, none⟩ = some (.string nm) := (b2.cell (p := ⟨Bs, 0, none⟩) hBs).trans (hrs 0 _ rfl)
        have k1 : w2.cell? ⟨Bs, 1, none⟩ = some (.int .i64 ix) := (b2.cell (p := ⟨Bs, 1, none⟩) hBs).trans (hrs 1 _ rfl)
        have k2 : w2.cell? ⟨Bs, 2, none⟩ = some (.bool it) := (b2.cell (p := ⟨Bs, 2, none⟩) hBs).trans (hrs 2 _ rfl)
        have l1 := p1.lt
        have l2 := p2.lt
        have P1 := hide p1
        have P2 := hide p2
        have HG := hide hG
        have B2 := hide b2
        have hln := hide (show Pu.reverse.length + 1 ≤ 1048577 by have := unhide hpl; simp; omega)
        have H0 := hide h0
        clear p1 p2 hG b2 hrs h0
        gi_wp2_with (refine wp_lgIn (W := W) (unhide HG) (unhide B2) rfl _ _ rfl rfl ⟨nm, ix, it⟩ _ rfl rfl (unhide hln) ?_; intro a3 n3 c3 w3 hG3 b3; have c1 : w3.cell? ⟨w.heap.size + 1, 0, none⟩ = some (.slice none 0 0) := (b3.cell (p := ⟨w.heap.size + 1, 0, none⟩) l1).trans (unhide P1).cell; have c2 : w3.cell? ⟨w.heap.size + 1 + 1, 0, none⟩ = some (.int .i64 0) := (b3.cell (p := ⟨w.heap.size + 1 + 1, 0, none⟩) l2).trans (unhide P2).cell; have f1 : w3.frozen? ⟨w.heap.size + 1, 0, none⟩ = false := (b3.frozen (p := ⟨w.heap.size + 1, 0, none⟩) l1).trans (unhide P1).frozen; have f2 : w3.frozen? ⟨w.heap.size + 1 + 1, 0, none⟩ = false := (b3.frozen (p := ⟨w.heap.size + 1 + 1, 0, none⟩) l2).trans (unhide P2).frozen; have HG3 := hide hG3; have B3 := hide b3; clear hG3 b3)
        have hB3 := unhide B3
        have x1 : Boxed w3 (w.heap.size + 1) 29 (.slice none 0 0) := (hB3.block _ l1).trans (unhide P1)
        have x2 : Boxed w3 (w.heap.size + 1 + 1) 30 (.int .i64 0) := (hB3.block _ l2).trans (unhide P2)
        have hW3 : Below w.heap.size w w3 := hBW.trans (hB3.mono hBW.size)
        have hgl := (unhide HG3).lt
        have hg1 := GrV.kept (unhide HG3) (grownBy_setCell' w3 (w.heap.size + 1) (.slice a3 n3 c3)) (.inr (fun e => by have := (hgl _ e).1; omega))
        have hg2 := GrV.kept hg1 (grownBy_setCell' (w3.setCell ⟨w.heap.size + 1, 0, none⟩ (.slice a3 n3 c3)) (w.heap.size + 1 + 1) (.int .i64 E)) (.inr (fun e => by have := (hgl _ e).1; omega))
        refine ⟨((keepsFrom_below hB3).trans ((KeepsOthers.setCell _ _ _).from _)).trans ((KeepsOthers.setCell _ _ _).from _), rfl, a3, n3, c3, pre.map Kid.sv, (⟨nm, ix, it⟩, .mk ukd ub um uf utx uty uits ufls), (x1.set _).other (by omega) _, ?_, ?_, ?_, unhide HPre, unhide HZ, ?_⟩
        · show Boxed _ _ _ (.int .i64 (ffE _))
          rw [unhide HE]
          exact (x2.other (by omega) _).set _
        · show GrS _ ((ffP _).reverse ++ _) _ _
          rw [unhide HP]
          exact GrS.older hg2 hBW.size
        · exact (hW3.setCell (p := ⟨w.heap.size + 1, 0, none⟩) (Nat.le_succ _) _).setCell (p := ⟨w.heap.size + 1 + 1, 0, none⟩) (by show w.heap.size ≤ w.heap.size + 1 + 1; omega) _
        · show ffE _ ≠ 0
          rw [unhide HE]
          exact unhide H0
    case done =>
      rintro D xs W hD hxs ⟨⟨p1, p2⟩, hBW, hz⟩ hK
      have c1 := p1.cell
      have c2 := p2.cell
      have f1 := p1.frozen
      have f2 := p2.frozen
      obtain ⟨e1, e2⟩ := ff_done (unhide HB) (fun q hq => hz q (by rw [hxs]; exact hq))
      have E1 := hide e1
      have E2 := hide e2
      have P1 := hide p1
      have P2 := hide p2
      have hn1 : w.heap.size + 1 ≠ D := by have := q1.lt; omega
      have hn2 : w.heap.size + 1 + 1 ≠ D := by have := q2.lt; omega
      clear e1 e2 p1 p2 hz hxs
      gi_wp2
      have hK' := (KeepsOthers.setCell (W.setCell ⟨w.heap.size + 1, 0, none⟩ (.slice none 0 0)) ⟨w.heap.size + 1 + 1, 0, none⟩ (.int .i64 0)).same D _ ((KeepsOthers.setCell W ⟨w.heap.size + 1, 0, none⟩ (.slice none 0 0)).same D _ hK rfl) rfl
      refine ⟨by simp, .inl ⟨_, _, rfl, run_takeDeferred hK', ?_⟩⟩
      refine ⟨_, ff_results _ _ (w.heap.size + 1) (w.heap.size + 1 + 1) none 0 0 0 rfl rfl ((((unhide P1).set _).other (by omega) _).kept (grownBy_putObj' _ D _) (fun e => hn1 (by cases e; rfl))).cell ((((unhide P2).other (by omega) _).set _).kept (grownBy_putObj' _ D _) (fun e => hn2 (by cases e; rfl))).cell, none, 0, 0, by rw [unhide E2], by rw [unhide E1]; exact GrV.nil, ?_⟩
      exact ((hBW.setCell (p := ⟨w.heap.size + 1, 0, none⟩) (Nat.le_succ _) _).setCell (p := ⟨w.heap.size + 1 + 1, 0, none⟩) (by show w.heap.size ≤ w.heap.size + 1 + 1; omega) _).trans (belowK_b (w := w) (Nat.le_refl _) _ D _ _ (by have := hB0.size; omega) hK' rfl rfl)
    case stop =>
      rintro D c pre W hD ⟨k, hk, hpre⟩ ⟨rfl, aj, nj, cj, p, q, h1, h2, h3, h4, h5, h6, h7⟩ hK
      obtain ⟨e1, e2⟩ := ff_stop (unhide HB) (h5.symm.trans hpre) h6 h7
      have hn1 : w.heap.size + 1 ≠ D := by have := q1.lt; omega
      have hn2 : w.heap.size + 1 + 1 ≠ D := by have := q2.lt; omega
      gi_wp2
      refine ⟨by simp, .inl ⟨_, _, rfl, run_takeDeferred hK, ?_⟩⟩
      refine ⟨_, ff_results _ _ (w.heap.size + 1) (w.heap.size + 1 + 1) aj nj cj (ffE q.2) rfl rfl (h1.kept (grownBy_putObj' _ D _) (fun e => hn1 (by cases e; rfl))).cell (h2.kept (grownBy_putObj' _ D _) (fun e => hn2 (by cases e; rfl))).cell, aj, nj, cj, by rw [e2], ?_, ?_⟩
      · rw [e1, List.reverse_cons]
        exact h3.kept' (grownBy_putObj' _ D _) (fun r e => by cases e; exact ⟨_, hK, rfl⟩)
      · exact h4.trans (belowK_b (w := w) (Nat.le_refl _) _ D _ _ (by have := hB0.size; omega) hK rfl rfl)
  · obtain ⟨e1, e2⟩ := ff_own hbad
    generalize flw (.mk kd b m f tx ty its fls) = R at *
    have E1 := hide e1
    have E2 := hide e2
    have hR : (R != 0) = true := by simpa using hbad
    have Q1 := hide q1
    have Q2 := hide q2
    have S1 := hide s1
    clear e1 e2 hsm hbad hcn rV1 q1 q2 ih s1
    gi_wp2
    refine ⟨_, ff_results _ _ (w.heap.size + 1) (w.heap.size + 1 + 1) none 0 0 R rfl rfl (((unhide Q1).set _).other (by omega) _).cell (((unhide Q2).other (by omega) _).set _).cell, none, 0, 0, by rw [unhide E2], by rw [unhide E1]; exact GrV.nil, ?_⟩
    exact (hB1.setCell (p := ⟨w.heap.size + 1, 0, none⟩) (Nat.le_succ _) _).setCell (p := ⟨w.heap.size + 1 + 1, 0, none⟩) (by show w.heap.size ≤ w.heap.size + 1 + 1; omega) _
theorem ff_ok : ∀ v : Vl, Small v → FfAt v := by
  refine Vl.all ?_
  intro kd b n f tx ty its fls hI hF hsm
  have hs := hsm
  unfold Small at hs
  obtain ⟨-, -, -, hsI, hsF⟩ := hs
  exact ff_step _ hsm (mem_kids (P := FfAt) (fun v hv => hI v hv (hsI.all v hv)) (fun q hq => hF q hq (hsF.all q hq)))
end Go.Proofs.Ytmlgbglaifnhgaa.og
namespace Go.Proofs.Ytmlgbglaifnhgaa.og
open Go.ChangeShapes Go.WideShapes Go.ChangeAt Go.RowKit
open vl hiding cB cFl cS cF cI cK cIt
open stp (St Pth St3)
set_option linter.unusedVariables false
set_option linter.unusedSimpArgs false
/-- what stands at place k when i have been exchanged from both ends -/
def rvk (l : List St) (i k : Nat) : Option St := if k < i ∨ l.length - 1 - i < k then l[l.length - 1 - k]? else l[k]?
/-- the cells while a path is turned round -/
def RvS (l : List St) (g off i : Nat) (w : World) : Prop := ∀ (k : Nat) (s : St), k < l.length → rvk l i k = some s → w.rangeAt g (off + k * 3) (stC s)
theorem there_of {w : World} {b o : Nat} {x : St} (h : w.rangeAt b o (stC x)) (hf : ∀ j, w.frozen? ⟨b, j, none⟩ = false) : w.there b o 3 := fun j hj => by
  rw [h j _ (List.getElem?_eq_getElem (show j < (stC x).length from hj))]; exact ⟨rfl, hf _⟩
theorem rv_swap {l : List St} {g off i j : Nat} {w : World} {x y : St} (h : RvS l g off i w) (hf : ∀ j, w.frozen? ⟨g, j, none⟩ = false) (hj : j = l.length - 1 - i) (hij : i < j) (hjn : j < l.length) (hx : l[i]? = some x) (hy : l[j]? = some y) : RvS l g off (i + 1) ((w.setCells g (off + i * 3) (stC y)).setCells g (off + j * 3) (stC x)) := by
  have rx := h i x (by omega) (by unfold rvk; rw [if_neg (by omega)]; exact hx)
  have ry := h j y (by omega) (by unfold rvk; rw [if_neg (by omega)]; exact hy)
  have l3 : ∀ s : St, (stC s).length = 3 := fun s => rfl
  intro k s hk hs
  by_cases h1 : k = i
  · subst h1
    have : s = y := by
      unfold rvk at hs
      rw [if_pos (by omega), ← hj, hy] at hs
      exact (Option.some.inj hs).symm
    subst this
    exact World.rangeAt_setCells_apart (World.rangeAt_setCells_same w g _ (stC s) (there_of rx hf)) _ _ _ (.inr (.inl (by rw [l3]; omega)))
  by_cases h2 : k = j
  · subst h2
    have : s = x := by
      unfold rvk at hs
      rw [if_pos (by omega), show l.length - 1 - k = i by omega, hx] at hs
      exact (Option.some.inj hs).symm
    subst this
    exact World.rangeAt_setCells_same _ g _ (stC s) (World.there_setCells (there_of ry hf) _ _ _)
  · have h3 := h k s hk (by
      rw [← hs]
      unfold rvk
      by_cases hc : k < i ∨ l.length - 1 - i < k
      · rw [if_pos hc, if_pos (by omega)]
      · rw [if_neg hc, if_neg (by omega)])
    refine World.rangeAt_setCells_apart (World.rangeAt_setCells_apart h3 _ _ _ (.inr ?_)) _ _ _ (.inr ?_)
    · rw [l3, l3]; omega
    · rw [l3, l3]; omega
theorem set3 (w : World) (g o : Nat) (a b c : Value) : ((w.setCell ⟨g, o, none⟩ a).setCell ⟨g, o + 1, none⟩ b).setCell ⟨g, o + 2, none⟩ c = w.setCells g o [a, b, c] := rfl
theorem rv_world {l : List St} {g off i j B : Nat} {w wr : World} {nx ny : ByteArray} {ix iy : Int} {tx ty : Bool} (h : RvS l g off i wr) (hf : ∀ j, wr.frozen? ⟨g, j, none⟩ = false) (hj : j = l.length - 1 - i) (hij : i < j) (hjn : j < l.length) (hx : l[i]? = some ⟨nx, ix, tx⟩) (hy : l[j]? = some ⟨ny, iy, ty⟩) (hb : Below B w wr) (hB : B ≤ g) :
    ∃ X, ((((((wr.setCell ⟨g, off + i * 3, none⟩ (.string ny)).setCell ⟨g, off + i * 3 + 1, none⟩ (.int .i64 iy)).setCell ⟨g, off + i * 3 + 2, none⟩ (.bool ty)).setCell ⟨g, off + j * 3, none⟩ (.string nx)).setCell ⟨g, off + j * 3 + 1, none⟩ (.int .i64 ix)).setCell ⟨g, off + j * 3 + 2, none⟩ (.bool tx)).drew = X ∧ RvS l g off (i + 1) X ∧ (∀ j, X.frozen? ⟨g, j, none⟩ = false) ∧ Below B w X := by
  rw [set3, set3, show [Value.string ny, .int .i64 iy, .bool ty] = stC ⟨ny, iy, ty⟩ from rfl, show [Value.string nx, .int .i64 ix, .bool tx] = stC ⟨nx, ix, tx⟩ from rfl]
  have h1 := rv_swap h hf hj hij hjn hx hy
  have h2 : ∀ k, World.frozen? ((wr.setCells g (off + i * 3) (stC ⟨ny, iy, ty⟩)).setCells g (off + j * 3) (stC ⟨nx, ix, tx⟩)) ⟨g, k, none⟩ = false := fun k => by
    rw [World.frozen?_setCells, World.frozen?_setCells]; exact hf k
  have h3 := below_setCells _ (stC ⟨nx, ix, tx⟩) (off + j * 3) _ (below_setCells _ (stC ⟨ny, iy, ty⟩) (off + i * 3) _ hb hB) hB
  generalize (wr.setCells g (off + i * 3) (stC ⟨ny, iy, ty⟩)).setCells g (off + j * 3) (stC ⟨nx, ix, tx⟩) = Y at *
  exact ⟨_, rfl, h1, h2, h3.drew⟩
set_option maxHeartbeats 4000000 in
set_option maxRecDepth 100000 in
theorem rev_ok (l : List St) (g off c : Nat) (w : World) (h : RvS l g off 0 w) (hf : ∀ j, w.frozen? ⟨g, j, none⟩ = false) (hn : l.length ≤ 1048577) (B : Nat) (hB : B ≤ g) :
    Calls Try.prog 25 #[.slice (some ⟨g, off, none⟩) l.length c] w fun e w' => e = .returned (.tuple #[]) ∧ RvS l g off l.length w' ∧ Below B w w' := by
  obtain ⟨n, hnl⟩ : ∃ n, n = l.length := ⟨_, rfl⟩
  rw [← hnl] at hn ⊢
  have HN := hide hnl
  have H := hide h
  have HF := hide hf
  clear hnl h hf
  go_enter Try.func25, Try.ntmps25
  go_wp2
  go_loopw [2, 3] (fun vi vj wr => ∃ i : Nat, 2 * i ≤ n + 1 ∧ vi = .int .i64 i ∧ vj = .int .i64 ((n : Int) - 1 - i) ∧ vl.Hid (RvS l g off i wr) ∧ vl.Hid (∀ j, wr.frozen? ⟨g, j, none⟩ = false) ∧ Below B w wr) (fun vi _ _ => n - (intOf vi).toNat)
  case atStart => exact ⟨0, by omega, rfl, by simp, H, HF, Below.refl _ _⟩
  case round =>
    obtain ⟨i, hi, rfl, rfl, HR, HZ, hb⟩ := hrel
    by_cases hlt : 2 * i + 1 < n
    · obtain ⟨j, hj⟩ : ∃ j : Nat, j = n - 1 - i := ⟨_, rfl⟩
      have hij : i < j := by omega
      have hjn : j < n := by omega
      have ej : ((n : Int) - 1 - i) = (j : Int) := by omega
      rw [ej]
      obtain ⟨x, hx⟩ : ∃ x, l[i]? = some x := ⟨_, List.getElem?_eq_getElem (by rw [← unhide HN]; omega)⟩
      obtain ⟨y, hy⟩ : ∃ y, l[j]? = some y := ⟨_, List.getElem?_eq_getElem (by rw [← unhide HN]; omega)⟩
      have rx := unhide HR i x (by rw [← unhide HN]; omega) (by unfold rvk; rw [← unhide HN, if_neg (by omega)]; exact hx)
      have ry := unhide HR j y (by rw [← unhide HN]; omega) (by unfold rvk; rw [← unhide HN, if_neg (by omega)]; exact hy)
      have HX := hide hx
      have HY := hide hy
      have HJ := hide hj
      obtain ⟨nx, ix, tx⟩ := x
      obtain ⟨ny, iy, ty⟩ := y
      have x0 : wr.cell? ⟨g, off + i * 3, none⟩ = some (.string nx) := rx 0 _ rfl
      have x1 : wr.cell? ⟨g, off + i * 3 + 1, none⟩ = some (.int .i64 ix) := rx 1 _ rfl
      have x2 : wr.cell? ⟨g, off + i * 3 + 2, none⟩ = some (.bool tx) := rx 2 _ rfl
      have y0 : wr.cell? ⟨g, off + j * 3, none⟩ = some (.string ny) := ry 0 _ rfl
      have y1 : wr.cell? ⟨g, off + j * 3 + 1, none⟩ = some (.int .i64 iy) := ry 1 _ rfl
      have y2 : wr.cell? ⟨g, off + j * 3 + 2, none⟩ = some (.bool ty) := ry 2 _ rfl
      have hfz := unhide HZ
      have u0 := hfz (off + i * 3)
      have u1 := hfz (off + i * 3 + 1)
      have u2 := hfz (off + i * 3 + 2)
      have v0 := hfz (off + j * 3)
      have v1 := hfz (off + j * 3 + 1)
      have v2 := hfz (off + j * 3 + 2)
      have iji : (i : Int) < (j : Int) := by omega
      have ini : (i : Int) < (n : Int) := by omega
      have jni : (j : Int) < (n : Int) := by omega
      have BB := hide hb
      clear hx hy hj rx ry ej hfz hb
      have hmx := vl.mixed
      go_wp2_with fail
      go_region_o
      obtain ⟨X, eX, hX1, hX2, hX3⟩ := rv_world (unhide HR) (unhide HZ) (by rw [← unhide HN]; exact unhide HJ) hij (by rw [← unhide HN]; exact hjn) (unhide HX) (unhide HY) (unhide BB) hB
      rw [eX]
      have G1 := hide hX1
      have G2 := hide hX2
      clear eX hX1 hX2 x0 x1 x2 y0 y1 y2 u0 u1 u2 v0 v1 v2 HR HZ BB
      go_wp2
      go_roundw
      case rel => exact ⟨i + 1, by omega, by simp, by have := unhide HJ; simp; omega, G1, G2, hX3⟩
      case measure => simp [intOf]; omega
    · go_wp2
      go_end0
      refine ⟨rfl, ?_, hb⟩
      intro k s hk hs
      refine unhide HR k s hk ?_
      rw [← hs]
      have hN := unhide HN
      unfold rvk
      rw [← hN] at hk ⊢
      by_cases hc : k < i ∨ n - 1 - i < k
      · rw [if_pos hc, if_pos (.inl hk)]
      · rw [if_neg hc, if_pos (.inl hk)]
        congr 1
        omega
set_option maxHeartbeats 4000000 in
theorem rev_nil (c : Nat) (w : World) : Calls Try.prog 25 #[.slice none 0 c] w fun e w' => e = .returned (.tuple #[]) ∧ w = w' := by
  go_enter Try.func25, Try.ntmps25
  go_wp2
  go_loopw [2, 3] (fun vi vj wr => vi = .int .i64 0 ∧ vj = .int .i64 (-1) ∧ w = wr) (fun _ _ _ => 0)
  case atStart => exact ⟨rfl, rfl, rfl⟩
  case round =>
    obtain ⟨rfl, rfl, rfl⟩ := hrel
    go_wp2
    go_end0
    exact ⟨rfl, rfl⟩
/-- a new list of steps is turned round in its place -/
theorem rev_grs {l : List St} {a : Option Addr} {n c : Nat} {w : World} {B : Nat} (h : GrS B l (.slice a n c) w) (hl : l.length ≤ 1048577) :
    Calls Try.prog 25 #[.slice a n c] w fun e w' => e = .returned (.tuple #[]) ∧ Pth w' a n l.reverse ∧ Below B w w' := by
  by_cases h0 : l = []
  · subst h0
    obtain ⟨xss, h1, -⟩ := h
    rcases h1.2 with ⟨e, -⟩ | ⟨g, cap, cur, e, hg, hh, hr⟩
    · cases e
      refine (rev_nil 0 w).mono ?_
      rintro e w1 ⟨rfl, rfl⟩
      exact ⟨rfl, ⟨rfl, .inl rfl⟩, Below.refl _ _⟩
    · simp only [List.length_nil, Value.slice.injEq] at e
      obtain ⟨rfl, rfl, rfl⟩ := e
      refine (rev_ok [] g 0 _ w (fun k s hk => absurd hk (Nat.not_lt_zero _)) (fun j => h1.frozenAt j) (by simp) B hg).mono ?_
      rintro e w1 ⟨rfl, -, hb⟩
      exact ⟨rfl, ⟨rfl, .inl rfl⟩, hb⟩
  · obtain ⟨g, cap, e, hp, hg, hlt, hfz⟩ := PO.of_grs h0 h
    simp only [Value.slice.injEq] at e
    obtain ⟨rfl, rfl, rfl⟩ := e
    obtain ⟨-, hp⟩ := hp
    have hcell : RvS l g 0 0 w := by
      intro k s hk hs
      unfold rvk at hs
      rw [if_neg (by omega)] at hs
      rcases hp with ⟨e, -⟩ | ⟨p, e1, e2, e3⟩
      · exact absurd e h0
      · cases e1
        rw [Nat.zero_add]
        exact e3 k s hs
    refine (rev_ok l g 0 c w hcell (fun j => hfz g (List.mem_singleton.2 rfl) j) hl B hg).mono ?_
    rintro e w1 ⟨rfl, hr, hb⟩
    refine ⟨rfl, ⟨by simp, .inr ⟨g, 0, rfl, Nat.lt_of_lt_of_le hlt hb.size, fun i hi => ?_⟩⟩, hb⟩
    obtain ⟨s, hs⟩ : ∃ s, l[l.length - 1 - i]? = some s := ⟨_, List.getElem?_eq_getElem (by omega)⟩
    have := hr i s hi (by unfold rvk; rw [if_pos (.inl hi)]; exact hs)
    refine ⟨s, by rw [List.getElem?_reverse hi]; exact hs, ?_⟩
    exact ⟨this 0 _ rfl, this 1 _ rfl, this 2 _ rfl⟩
end Go.Proofs.Ytmlgbglaifnhgaa.og
