import Derived.Test.YtechaplindbfoaaGreatDoorJpa7
import Derived.LoopN
import Derived.Outline
import Derived.Laws.Pointers
import Derived.Deep.RegionWith
import Derived.Defers
import Derived.Recover
import Derived.Shelf.Strings.Builder1
import Derived.Test.YtechaplindbfoaaGreatDoorProg
import Derived.Lib.AppendStr
namespace Go.Proofs.YtechaplindbfoaaGreatDoor.mem
open Go.ChangeShapes Go.WideShapes Go.ChangeAt Go.RowKit
open ints (hide unhide)
set_option linter.unusedVariables false

theorem runes_flat : ∀ (zs : List Int) (s : ByteArray) (pre : List Int) (bound : Nat) (acc : Array Value), zs.all scB = true → bytesZ s = pre ++ zs.flatMap putB → zs.length ≤ bound →
    Conv.runesFrom s bound pre.length acc = acc ++ (zs.map (Value.int .i32)).toArray
  | [], s, pre, bound, acc, _, hb, _ => by
    have hz : pre.length = s.size := by rw [← bytesZ_len, hb]; simp
    cases bound with
    | zero => simp [Conv.runesFrom]
    | succ b => unfold Conv.runesFrom; rw [if_neg (by omega)]; simp
  | c :: zs, s, pre, 0, acc, _, _, hl => by simp at hl
  | c :: zs, s, pre, b + 1, acc, ha, hb, hl => by
    simp only [List.all_cons, Bool.and_eq_true] at ha
    have hc := (scB_iff c).1 ha.1
    have hpl := putB_len c
    simp only [List.flatMap_cons] at hb
    have hlt : pre.length < s.size := by
      rw [← bytesZ_len, hb]; simp; omega
    have hd : (bytesZ s).drop pre.length = putB c ++ zs.flatMap putB := by rw [hb]; simp
    have hdec := decode_one s pre.length hlt
    rw [hd, one_put c hc] at hdec
    rw [if_neg (by simp only; omega)] at hdec
    unfold Conv.runesFrom
    rw [if_pos hlt, hdec]
    simp only
    have hcz : Int.ofNat c.toNat = c := by unfold scP at hc; show ((c.toNat : Nat) : Int) = c; omega
    rw [hcz]
    have ih := runes_flat zs s (pre ++ putB c) b (acc.push (.int .i32 c)) ha.2 (by rw [hb, List.append_assoc]) (by simp at hl; omega)
    rw [List.length_append] at ih
    rw [ih]
    simp
theorem flat_ge (zs : List Int) : zs.length ≤ (zs.flatMap putB).length := by
  induction zs with
  | nil => simp
  | cons a l ih => have := putB_len a; rw [List.flatMap_cons, List.length_append, List.length_cons]; omega
/-- The conversion to characters of the good beginning. -/
theorem runes_good (s : ByteArray) : Conv.runesFrom (s.extract 0 (decZ (bytesZ s)).2) (s.extract 0 (decZ (bytesZ s)).2).size 0 #[] = ((decZ (bytesZ s)).1.map (Value.int .i32)).toArray := by
  obtain ⟨h1, h2, h3, h4⟩ := decF_flat (bytesZ s).length (bytesZ s) (bytesZ_byt s)
  have hb : bytesZ (s.extract 0 (decZ (bytesZ s)).2) = [] ++ (decZ (bytesZ s)).1.flatMap putB := by
    rw [bytesZ_extract]
    simp only [List.drop_zero, Nat.sub_zero, List.nil_append]
    exact h1.symm
  have hl : (decZ (bytesZ s)).1.length ≤ (s.extract 0 (decZ (bytesZ s)).2).size := by
    have := flat_ge (decZ (bytesZ s)).1
    rw [← bytesZ_len, hb]
    simpa using this
  have := runes_flat (decZ (bytesZ s)).1 (s.extract 0 (decZ (bytesZ s)).2) [] _ #[] h3 hb hl
  simpa using this
theorem decZ_le (l : List Int) (h : Byt l) : (decZ l).2 ≤ l.length := (decF_flat l.length l h).2.1
theorem decZ_len (l : List Int) (h : Byt l) : (decZ l).1.length ≤ (decZ l).2 := by
  have h1 := flat_ge (decZ l).1
  have h2 := (decF_flat l.length l h).2.2.2
  exact Nat.le_trans h1 (Nat.le_of_eq h2)
theorem conv_runes_n (s : ByteArray) (w : World) (hs : (decZ (bytesZ s)).1.length ≤ 70368744177664) (g : Nat) (hg : g = (decZ (bytesZ s)).2) : ∃ V W2, (convert 9 129 (.string (s.extract 0 g))).run Tryz.prog w = .ok V W2 ∧
    W2.ownsRow w.heap.size 21 1 V (decZ (bytesZ s)).1.length ((decZ (bytesZ s)).1.map (Value.int .i32)) ∧ Below w.heap.size w W2 := by
  subst hg
  have hr := runes_good s
  have hsz : (Conv.runesFrom (s.extract 0 (decZ (bytesZ s)).2) (s.extract 0 (decZ (bytesZ s)).2).size 0 #[]).size = (decZ (bytesZ s)).1.length := by rw [hr]; simp
  have h := run_runes_of_string (P := Tryz.prog) w 9 129 21 (s.extract 0 (decZ (bytesZ s)).2) Tryz.underlying9 Tryz.underlying129 Tryz.underlying21 (by rw [hsz]; omega)
  rw [hsz, hr] at h
  refine ⟨_, _, h, ⟨by simp, .inr ⟨w.heap.size, _, _, rfl, Nat.le_refl _, heap_alloc_new w.drew _, grownCap_ge _ _ _ _, grownCap_le_maxLen _ _ _ _ (by unfold maxLen; omega), ?_, ?_⟩⟩, ?_⟩
  · have := grownCap_ge w (decZ (bytesZ s)).1.length 0 21
    simp
    omega
  · simp
  · exact (Below.refl _ _).drew.alloc (Nat.le_refl _) _
theorem conv_runes (s : ByteArray) (w : World) (hs : s.size ≤ 70368744177664) (g : Nat) (hg : g = (decZ (bytesZ s)).2) : ∃ V W2, (convert 9 129 (.string (s.extract 0 g))).run Tryz.prog w = .ok V W2 ∧
    W2.ownsRow w.heap.size 21 1 V (decZ (bytesZ s)).1.length ((decZ (bytesZ s)).1.map (Value.int .i32)) ∧ Below w.heap.size w W2 :=
  conv_runes_n s w (by
    have h1 := decZ_len (bytesZ s) (bytesZ_byt s)
    have h2 := decZ_le (bytesZ s) (bytesZ_byt s)
    rw [bytesZ_len] at h2
    omega) g hg
end Go.Proofs.YtechaplindbfoaaGreatDoor.mem
namespace Go.Proofs.YtechaplindbfoaaGreatDoor.mem
open Go.ChangeShapes Go.WideShapes Go.ChangeAt Go.RowKit
open ints (hide unhide)
set_option linter.unusedVariables false

theorem own_low {w : World} {base base' : Nat} {e : TypeId} {size : Nat} {v : Value} {n : Nat} {xs : List Value} (h : w.ownsRow base e size v n xs) (hb : base' ≤ base) : w.ownsRow base' e size v n xs :=
  ⟨h.1, h.2.imp id (fun ⟨g', r1, r2, r3, r4, r5⟩ => ⟨g', r1, r2, r3, Nat.le_trans hb r4, r5⟩)⟩
theorem clean_str (s : ByteArray) (w : World) (hs : s.size ≤ 9223372036854775807) :
    Calls Tryz.prog 31 #[.string s] w fun e w' => e = .returned (.bool ((((decZ (bytesZ s)).2 : Nat) : Int) == (s.size : Int))) ∧ Below w.heap.size w w' := by
  obtain ⟨g, hg⟩ : ∃ g, g = (decZ (bytesZ s)).2 := ⟨_, rfl⟩
  have G := hide (good_any s w hs)
  rw [← hg] at G ⊢
  clear hg
  go_enter Tryz.func31, Tryz.ntmps31
  go_wp2_with fail
  refine (unhide G).mono ?_
  rintro e w1 ⟨rfl, hb1⟩
  clear G
  go_wp2
  go_ret
  exact ⟨rfl, hb1⟩
end Go.Proofs.YtechaplindbfoaaGreatDoor.mem
namespace Go.Proofs.YtechaplindbfoaaGreatDoor.jsn
open Go.ChangeShapes Go.WideShapes Go.ChangeAt Go.RowKit
open mem
open ints (hide unhide)
set_option linter.unusedVariables false

/-- a pen: what is called with a piece lays it behind what it has laid, in memory from B on -/
structure Pen (k : Nat) (cap : Array Value) (B : Nat) (I : List UInt8 → World → Prop) (G : World → World → Prop) : Prop where
  low : ∀ l w, I l w → B ≤ w.heap.size
  keep : ∀ l w w', I l w → Below w.heap.size w w' → I l w'
  gtrans : ∀ {a b c : World}, G a b → G b c → G a c
  gnew : ∀ {w w' : World}, B ≤ w.heap.size → Below w.heap.size w w' → G w w'
  gbel : ∀ {w w' : World}, G w w' → Below B w w'
  enters : ∀ args w, (callFunc k args).run Tryz.prog w = .ok (.enter k args) w
  lays : ∀ l (s : ByteArray) w, I l w → l.length + s.size ≤ 70368744177664 → Calls Tryz.prog k (#[.string s] ++ cap) w fun e w' => e = .returned (.tuple #[]) ∧ I (l ++ s.data.toList) w' ∧ G w w'

theorem std_out (c : UInt8) : (std c = true ∧ 32 ≤ c.toNat ∧ ¬ (c.toNat : Int) = 34 ∧ ¬ (c.toNat : Int) = 92) ∨ (std c = false ∧ (c.toNat < 32 ∨ c.toNat = 34 ∨ c.toNat = 92)) := by
  have : ∀ n, n < 256 → (std (UInt8.ofNat n) = true ∧ 32 ≤ n ∧ ¬ (n : Int) = 34 ∧ ¬ (n : Int) = 92) ∨ (std (UInt8.ofNat n) = false ∧ (n < 32 ∨ n = 34 ∨ n = 92)) := by decide +kernel
  have e : UInt8.ofNat c.toNat = c := UInt8.ofNat_toNat
  have := this c.toNat (UInt8.toNat_lt c)
  rw [e] at this
  exact this
theorem stands_any (c : UInt8) (w : World) :
    Calls Tryz.prog 59 #[.int .u8 c.toNat] w fun e w' => e = .returned (.bool (std c)) ∧ w' = w := by
  rcases std_out c with ⟨h0, h1, h2, h3⟩ | ⟨h0, h1 | h1 | h1⟩
  · rw [h0]
    have h1 : (32 : Int) ≤ (c.toNat : Int) := by omega
    obtain ⟨z, hz⟩ : ∃ z : Int, z = (c.toNat : Int) := ⟨_, rfl⟩
    rw [← hz] at h1 h2 h3 ⊢
    clear hz
    have e2 : (z != 34) = true := by simp [h2]
    have e3 : (z != 92) = true := by simp [h3]
    go_enter Tryz.func59, Tryz.ntmps59
    go_wp2
    go_ret
    refine ⟨?_, rfl⟩
    simp
  · rw [h0]
    have h1 : ¬ (32 : Int) ≤ (c.toNat : Int) := by omega
    obtain ⟨z, hz⟩ : ∃ z : Int, z = (c.toNat : Int) := ⟨_, rfl⟩
    rw [← hz] at h1 ⊢
    clear hz
    go_enter Tryz.func59, Tryz.ntmps59
    go_wp2
    go_ret
    exact ⟨rfl, rfl⟩
  · rw [h0, h1]
    go_enter Tryz.func59, Tryz.ntmps59
    go_wp2
    go_ret
    exact ⟨rfl, rfl⟩
  · rw [h0, h1]
    go_enter Tryz.func59, Tryz.ntmps59
    go_wp2
    go_ret
    exact ⟨rfl, rfl⟩
end Go.Proofs.YtechaplindbfoaaGreatDoor.jsn
namespace Go.Proofs.YtechaplindbfoaaGreatDoor.jsn
open Go.ChangeShapes Go.WideShapes Go.ChangeAt Go.RowKit
open mem
open ints (hide unhide)
set_option linter.unusedVariables false
set_option maxHeartbeats 4000000 in
theorem esc_34 (w : World) : Calls Tryz.prog 60 #[.int .u8 34] w fun e w' => e = .returned (.string ⟨#[92, 34]⟩) ∧ Below w.heap.size w w' := by
  go_enter Tryz.func60, Tryz.ntmps60
  go_wp2
  refine wp_loop_rounds 1 ?_
  rw [rounds_succ]
  go_wp2
  go_ret
  refine ⟨rfl, ?_⟩
  exact (((Below.refl _ _).alloc (Nat.le_refl _) _).alloc (by simp; try omega) _)
set_option maxHeartbeats 4000000 in
theorem esc_92 (w : World) : Calls Tryz.prog 60 #[.int .u8 92] w fun e w' => e = .returned (.string ⟨#[92, 92]⟩) ∧ Below w.heap.size w w' := by
  go_enter Tryz.func60, Tryz.ntmps60
  go_wp2
  refine wp_loop_rounds 2 ?_
  rw [rounds_succ]
  go_wp2
  rw [rounds_succ]
  go_wp2
  go_ret
  refine ⟨rfl, ?_⟩
  exact ((((Below.refl _ _).alloc (Nat.le_refl _) _).alloc (by simp; try omega) _).alloc (by simp; try omega) _)
set_option maxHeartbeats 4000000 in
theorem esc_8 (w : World) : Calls Tryz.prog 60 #[.int .u8 8] w fun e w' => e = .returned (.string ⟨#[92, 98]⟩) ∧ Below w.heap.size w w' := by
  go_enter Tryz.func60, Tryz.ntmps60
  go_wp2
  refine wp_loop_rounds 3 ?_
  rw [rounds_succ]
  go_wp2
  rw [rounds_succ]
  go_wp2
  rw [rounds_succ]
  go_wp2
  go_ret
  refine ⟨rfl, ?_⟩
  exact (((((Below.refl _ _).alloc (Nat.le_refl _) _).alloc (by simp; try omega) _).alloc (by simp; try omega) _).alloc (by simp; try omega) _)
set_option maxHeartbeats 4000000 in
theorem esc_9 (w : World) : Calls Tryz.prog 60 #[.int .u8 9] w fun e w' => e = .returned (.string ⟨#[92, 116]⟩) ∧ Below w.heap.size w w' := by
  go_enter Tryz.func60, Tryz.ntmps60
  go_wp2
  refine wp_loop_rounds 4 ?_
  rw [rounds_succ]
  go_wp2
  rw [rounds_succ]
  go_wp2
  rw [rounds_succ]
  go_wp2
  rw [rounds_succ]
  go_wp2
  go_ret
  refine ⟨rfl, ?_⟩
  exact ((((((Below.refl _ _).alloc (Nat.le_refl _) _).alloc (by simp; try omega) _).alloc (by simp; try omega) _).alloc (by simp; try omega) _).alloc (by simp; try omega) _)
set_option maxHeartbeats 4000000 in
theorem esc_10 (w : World) : Calls Tryz.prog 60 #[.int .u8 10] w fun e w' => e = .returned (.string ⟨#[92, 110]⟩) ∧ Below w.heap.size w w' := by
  go_enter Tryz.func60, Tryz.ntmps60
  go_wp2
  refine wp_loop_rounds 5 ?_
  rw [rounds_succ]
  go_wp2
  rw [rounds_succ]
  go_wp2
  rw [rounds_succ]
  go_wp2
  rw [rounds_succ]
  go_wp2
  rw [rounds_succ]
  go_wp2
  go_ret
  refine ⟨rfl, ?_⟩
  exact (((((((Below.refl _ _).alloc (Nat.le_refl _) _).alloc (by simp; try omega) _).alloc (by simp; try omega) _).alloc (by simp; try omega) _).alloc (by simp; try omega) _).alloc (by simp; try omega) _)
set_option maxHeartbeats 4000000 in
theorem esc_12 (w : World) : Calls Tryz.prog 60 #[.int .u8 12] w fun e w' => e = .returned (.string ⟨#[92, 102]⟩) ∧ Below w.heap.size w w' := by
  go_enter Tryz.func60, Tryz.ntmps60
  go_wp2
  refine wp_loop_rounds 6 ?_
  rw [rounds_succ]
  go_wp2
  rw [rounds_succ]
  go_wp2
  rw [rounds_succ]
  go_wp2
  rw [rounds_succ]
  go_wp2
  rw [rounds_succ]
  go_wp2
  rw [rounds_succ]
  go_wp2
  go_ret
  refine ⟨rfl, ?_⟩
  exact ((((((((Below.refl _ _).alloc (Nat.le_refl _) _).alloc (by simp; try omega) _).alloc (by simp; try omega) _).alloc (by simp; try omega) _).alloc (by simp; try omega) _).alloc (by simp; try omega) _).alloc (by simp; try omega) _)
set_option maxHeartbeats 4000000 in
theorem esc_13 (w : World) : Calls Tryz.prog 60 #[.int .u8 13] w fun e w' => e = .returned (.string ⟨#[92, 114]⟩) ∧ Below w.heap.size w w' := by
  go_enter Tryz.func60, Tryz.ntmps60
  go_wp2
  refine wp_loop_rounds 7 ?_
  rw [rounds_succ]
  go_wp2
  rw [rounds_succ]
  go_wp2
  rw [rounds_succ]
  go_wp2
  rw [rounds_succ]
  go_wp2
  rw [rounds_succ]
  go_wp2
  rw [rounds_succ]
  go_wp2
  rw [rounds_succ]
  go_wp2
  go_ret
  refine ⟨rfl, ?_⟩
  exact (((((((((Below.refl _ _).alloc (Nat.le_refl _) _).alloc (by simp; try omega) _).alloc (by simp; try omega) _).alloc (by simp; try omega) _).alloc (by simp; try omega) _).alloc (by simp; try omega) _).alloc (by simp; try omega) _).alloc (by simp; try omega) _)
end Go.Proofs.YtechaplindbfoaaGreatDoor.jsn
namespace Go.Proofs.YtechaplindbfoaaGreatDoor.jsn
open Go.ChangeShapes Go.WideShapes Go.ChangeAt Go.RowKit
open mem
open ints (hide unhide)
set_option linter.unusedVariables false
theorem gen_world {w : World} {P : World → Prop} (W : World) (hb : Below w.heap.size w W) (h : ∀ W, Below w.heap.size w W → P W) : P W := h W hb
set_option maxHeartbeats 16000000 in
theorem esc_low (n : Nat) (w : World) (h : n < 32) (h8 : ¬ (n : Int) = 8) (h9 : ¬ (n : Int) = 9) (h10 : ¬ (n : Int) = 10) (h12 : ¬ (n : Int) = 12) (h13 : ¬ (n : Int) = 13) : Calls Tryz.prog 60 #[.int .u8 (n : Int)] w fun e w' => e = .returned (.string ⟨(escU (UInt8.ofNat n)).toArray⟩) ∧ Below w.heap.size w w' := by
  have hn := hide (show n = 0 ∨ n = 1 ∨ n = 2 ∨ n = 3 ∨ n = 4 ∨ n = 5 ∨ n = 6 ∨ n = 7 ∨ n = 11 ∨ n = 14 ∨ n = 15 ∨ n = 16 ∨ n = 17 ∨ n = 18 ∨ n = 19 ∨ n = 20 ∨ n = 21 ∨ n = 22 ∨ n = 23 ∨ n = 24 ∨ n = 25 ∨ n = 26 ∨ n = 27 ∨ n = 28 ∨ n = 29 ∨ n = 30 ∨ n = 31 by omega)
  have h34 : ¬ (n : Int) = 34 := by omega
  have h92 : ¬ (n : Int) = 92 := by omega
  obtain ⟨z, hz⟩ : ∃ z : Int, z = (n : Int) := ⟨_, rfl⟩
  rw [← hz] at h8 h9 h10 h12 h13 h34 h92 ⊢
  have g34 : ¬ 34 = z := fun e => h34 e.symm
  have g92 : ¬ 92 = z := fun e => h92 e.symm
  have g8 : ¬ 8 = z := fun e => h8 e.symm
  have g9 : ¬ 9 = z := fun e => h9 e.symm
  have g10 : ¬ 10 = z := fun e => h10 e.symm
  have g12 : ¬ 12 = z := fun e => h12 e.symm
  have g13 : ¬ 13 = z := fun e => h13 e.symm
  have HZ := hide hz
  have HN := hide h
  clear hz h
  go_enter Tryz.func60, Tryz.ntmps60
  go_wp2
  refine wp_loop_rounds 8 ?_
  rw [rounds_succ]
  go_wp2
  rw [rounds_succ]
  go_wp2
  rw [rounds_succ]
  go_wp2
  rw [rounds_succ]
  go_wp2
  rw [rounds_succ]
  go_wp2
  rw [rounds_succ]
  go_wp2
  rw [rounds_succ]
  go_wp2
  rw [rounds_succ]
  go_wp2
  clear h8 h9 h10 h12 h13 h34 h92 g8 g9 g10 g12 g13 g34 g92
  refine gen_world (w := w) (P := Code.wp Tryz.prog _ _ _) _ ?hb fun W hb => ?_
  case hb => exact (((((((((Below.refl _ _).alloc (Nat.le_refl _) _).alloc (by simp; try omega) _).alloc (by simp; try omega) _).alloc (by simp; try omega) _).alloc (by simp; try omega) _).alloc (by simp; try omega) _).alloc (by simp; try omega) _).alloc (by simp; try omega) _)
  have hz := unhide HZ
  clear HZ HN
  rcases unhide hn with rfl | rfl | rfl | rfl | rfl | rfl | rfl | rfl | rfl | rfl | rfl | rfl | rfl | rfl | rfl | rfl | rfl | rfl | rfl | rfl | rfl | rfl | rfl | rfl | rfl | rfl | rfl
  all_goals (obtain rfl : z = _ := hz)
  all_goals (go_region <;> (try go_wp2))
  all_goals go_ret
  all_goals exact ⟨congrArg (fun x => Ending.returned (Value.string x)) (by decide +kernel), hb.drew⟩
theorem escape_any (c : UInt8) (w : World) (h : c.toNat < 32 ∨ c.toNat = 34 ∨ c.toNat = 92) :
    Calls Tryz.prog 60 #[.int .u8 c.toNat] w fun e w' => e = .returned (.string ⟨(escU c).toArray⟩) ∧ Below w.heap.size w w' := by
  have e : UInt8.ofNat c.toNat = c := UInt8.ofNat_toNat
  obtain ⟨n, hn⟩ : ∃ n, n = c.toNat := ⟨_, rfl⟩
  rw [← hn] at e h ⊢
  rw [← e]
  clear hn e
  rcases (show n = 34 ∨ n = 92 ∨ n = 8 ∨ n = 9 ∨ n = 10 ∨ n = 12 ∨ n = 13 ∨ (n < 32 ∧ ¬ (n : Int) = 8 ∧ ¬ (n : Int) = 9 ∧ ¬ (n : Int) = 10 ∧ ¬ (n : Int) = 12 ∧ ¬ (n : Int) = 13) by omega) with rfl | rfl | rfl | rfl | rfl | rfl | rfl | ⟨h0, h1, h2, h3, h4, h5⟩
  · exact esc_34 w
  · exact esc_92 w
  · exact esc_8 w
  · exact esc_9 w
  · exact esc_10 w
  · exact esc_12 w
  · exact esc_13 w
  · exact esc_low n w h0 h1 h2 h3 h4 h5
end Go.Proofs.YtechaplindbfoaaGreatDoor.jsn
namespace Go.Proofs.YtechaplindbfoaaGreatDoor.jsn
open Go.ChangeShapes Go.WideShapes Go.ChangeAt Go.RowKit
open mem
open ints (hide unhide)
set_option linter.unusedVariables false
theorem get_list (s : ByteArray) (k : Nat) (h : k < s.size) : s.data.toList.getD k 0 = s[k] := by
  have h' : k < s.data.size := h
  have e : s[k] = s.data[k] := rfl
  rw [e]
  simp [List.getD, Array.getElem?_eq_getElem h']
theorem size_list (s : ByteArray) : s.data.toList.length = s.size := by rw [Array.length_toList]; rfl
theorem cut_list (s : ByteArray) (a b : Nat) : (s.extract a b).data.toList = (s.data.toList.drop a).take (b - a) := extract_list s a b
theorem body_pre (l : List UInt8) (k : Nat) : (body (l.take k)).length ≤ (body l).length := by
  have e : body l = body (l.take k) ++ body (l.drop k) := by rw [← body_app, List.take_append_drop]
  rw [e, List.length_append]
  omega
theorem esc_pos (c : UInt8) : 1 ≤ (escU c).length := by
  unfold escU
  repeat' split
  all_goals simp
theorem body_ge : ∀ (l : List UInt8), l.length ≤ (body l).length
  | [] => by simp
  | c :: l => by
    have e : body (c :: l) = escU c ++ body l := by simp [body]
    have := esc_pos c
    have := body_ge l
    rw [e, List.length_append, List.length_cons]
    omega
theorem txt_len (l : List UInt8) : (txt l).length = (body l).length + 2 := by simp [txt]
set_option maxHeartbeats 4000000 in
theorem layText_any (k : Nat) (cap : Array Value) (B : Nat) (I : List UInt8 → World → Prop) (G : World → World → Prop) (hP : Pen k cap B I G) (l : List UInt8) (s : ByteArray) (w : World) (hI : I l w) (hl : l.length + (txt s.data.toList).length ≤ 70368744177664) :
    Calls Tryz.prog 32 #[.string s, .func (.func k) #[] cap] w fun e w' => e = .returned (.tuple #[]) ∧ I (l ++ txt s.data.toList) w' ∧ G w w' := by
  have en := hP.enters
  have hsl := size_list s
  rw [txt_len] at hl
  have hss : s.size ≤ 70368744177664 := by have := body_ge s.data.toList; omega
  go_enter Tryz.func32, Tryz.ntmps32
  go_wp2_with fail
  refine (hP.lays l ⟨#[34]⟩ w hI (by have : (⟨#[34]⟩ : ByteArray).size = 1 := rfl; omega)).mono ?_
  rintro e w1 ⟨rfl, i1, b1⟩
  go_wp2_with fail
  go_loopw [4, 10] (fun vf vk wr => ∃ (f n : Nat), f ≤ n ∧ n ≤ s.size ∧ vf = .int .i64 f ∧ vk = .int .i64 n ∧ Hid (∀ c ∈ (s.data.toList.drop f).take (n - f), std c = true) ∧ Hid (I (l ++ [34] ++ body (s.data.toList.take f)) wr) ∧ G w wr) (fun _ vk _ => s.size - (intOf vk).toNat)
  case atStart => exact ⟨0, 0, Nat.le_refl _, Nat.zero_le _, rfl, rfl, hide (by simp), hide (by rw [List.take_zero, body_nil, List.append_nil]; exact i1), b1⟩
  case round =>
    obtain ⟨f, n, hfn, hns, rfl, rfl, hst, hi, hb⟩ := hrel
    by_cases hlt : n < s.size
    · have hgl := hide (get_list s n hlt)
      rcases std_out (s[n]) with ⟨h0, -⟩ | ⟨h0, h1⟩
      · have S := hide (stands_any (s[n]) wr)
        rw [h0] at S
        have hst' := hide (std_more hfn (by omega) (unhide hst) (by rw [unhide hgl]; exact h0))
        clear h0
        go_wp2_with fail
        refine (unhide S).mono ?_
        rintro e w' ⟨rfl, rfl⟩
        clear S
        go_wp2
        refine ⟨⟨f, n + 1, by omega, by omega, rfl, rfl, hst', hi, hb⟩, ?_⟩
        simp only [intOf]
        omega
      · have S := hide (stands_any (s[n]) wr)
        rw [h0] at S
        clear h0
        have E := hide (fun W => escape_any (s[n]) W h1)
        clear h1
        go_wp2_with fail
        refine (unhide S).mono ?_
        rintro e w' ⟨rfl, rfl⟩
        clear S
        have hs1 := hide (body_step hfn (by omega) (unhide hst))
        have hs2 := hide (body_snoc (l := s.data.toList) (i := n) (by omega))
        have hp1 := body_pre s.data.toList n
        have hp2 := body_pre s.data.toList (n + 1)
        have hl1 := congrArg List.length (unhide hs1)
        have hl2 := congrArg List.length (unhide hs2)
        rw [List.length_append, ← cut_list, size_list] at hl1
        rw [List.length_append, unhide hgl] at hl2
        go_wp2_with fail
        refine (hP.lays _ (s.extract f n) _ (unhide hi) (by simp only [List.length_append, List.length_cons, List.length_nil]; omega)).mono ?_
        rintro e w2 ⟨rfl, i2, b2⟩
        have j2 := hide i2
        have hb2 := hP.gtrans hb b2
        have hlow := hP.low _ _ i2
        clear i2 b2 hb hi
        go_wp2_with fail
        refine (unhide E _).mono ?_
        rintro e w3 ⟨rfl, b3⟩
        clear E
        have j3 := hide (hP.keep _ _ _ (unhide j2) b3)
        have hb3 := hP.gtrans hb2 (hP.gnew hlow b3)
        go_wp2_with fail
        refine (hP.lays _ ⟨(escU (s[n])).toArray⟩ _ (unhide j3) ?lim).mono ?_
        case lim =>
          have e1 : (⟨(escU (s[n])).toArray⟩ : ByteArray).size = (escU (s[n])).length := by show (escU (s[n])).toArray.size = _; simp
          rw [e1]
          simp only [List.length_append, List.length_cons, List.length_nil, size_list]
          omega
        rintro e w4 ⟨rfl, i4, b4⟩
        have j4 := hide i4
        have hb4 := hP.gtrans hb3 b4
        clear i4 b4 hb3 j3 j2 hb2 b3
        go_wp2
        refine ⟨⟨n + 1, n + 1, by omega, by omega, rfl, rfl, hide (by simp), hide ?_, hb4⟩, ?_⟩
        · have h4 := unhide j4
          have hst1 := unhide hst
          rw [body_snoc (by omega), unhide hgl, body_step hfn (by omega) hst1, ← cut_list]
          simpa only [List.append_assoc] using h4
        · simp only [intOf]
          omega
    · obtain rfl : n = s.size := by omega
      have hfin := hide (body_last (std_full (l := s.data.toList) (f := f) (by rw [hsl]; exact unhide hst)))
      have hlen := congrArg List.length (unhide hfin)
      have hcl := congrArg List.length (cut_list s f s.size)
      rw [List.length_take, List.length_drop, hsl, size_list] at hcl
      rw [List.length_append, List.length_drop, hsl] at hlen
      go_wp2_with fail
      refine (hP.lays _ (s.extract f s.size) _ (unhide hi) (by simp only [List.length_append, List.length_cons, List.length_nil]; omega)).mono ?_
      rintro e w2 ⟨rfl, i2, b2⟩
      have j2 := hide i2
      have hb2 := hP.gtrans hb b2
      clear i2 b2 hb hi
      go_wp2_with fail
      refine (hP.lays _ ⟨#[34]⟩ _ (unhide j2) (by have : (⟨#[34]⟩ : ByteArray).size = 1 := rfl; simp only [List.length_append, List.length_cons, List.length_nil, size_list]; omega)).mono ?_
      rintro e w3 ⟨rfl, i3, b3⟩
      have j3 := hide i3
      have hb3 := hP.gtrans hb2 b3
      clear i3 b3 hb2 j2
      go_wp2
      go_end0
      refine ⟨rfl, ?_, hb3⟩
      have h3 := unhide j3
      unfold txt
      rw [unhide hfin]
      have e : (s.extract f s.size).data.toList = s.data.toList.drop f := by
        rw [cut_list, List.take_of_length_le (by simp)]
      rw [e] at h3
      simpa only [List.append_assoc, List.cons_append, List.nil_append] using h3
end Go.Proofs.YtechaplindbfoaaGreatDoor.jsn
namespace Go.Proofs
open Go.Shelf
def Tryz.lays169_ren : Go.Shelf.Ren := ⟨fun | 169 => 35 | n => n, fun | 70 => 60 | 9 => 9 | 0 => 0 | 72 => 62 | 37 => 34 | 127 => 97 | 3 => 3 | 5 => 5 | n => n, fun | n => n⟩
theorem Tryz.lays169 : Go.Proofs.Lays.n169 Tryz.prog Tryz.lays169_ren := {
  mixed := by kernel_rfl
  f169 := Tryz.func35.trans (congrArg some (by kernel_rfl))
  t0 := Tryz.underlying0
  a0 := Tryz.isAgg0
  z0 := Tryz.sizeOf0
  v0 := Tryz.zeroValue0
  t3 := Tryz.underlying3
  a3 := Tryz.isAgg3
  z3 := Tryz.sizeOf3
  v3 := Tryz.zeroValue3
  t9 := Tryz.underlying9
  a9 := Tryz.isAgg9
  z9 := Tryz.sizeOf9
  v9 := Tryz.zeroValue9
  t37 := Tryz.underlying34
  a37 := Tryz.isAgg34
  z37 := Tryz.sizeOf34
  v37 := Tryz.zeroValue34
  t70 := Tryz.underlying60
  a70 := Tryz.isAgg60
  z70 := Tryz.sizeOf60
  v70 := Tryz.zeroValue60
  t72 := Tryz.underlying62
  a72 := Tryz.isAgg62
  z72 := Tryz.sizeOf62
  v72 := Tryz.zeroValue62
  t127 := Tryz.underlying97
  a127 := Tryz.isAgg97
  z127 := Tryz.sizeOf97
  v127 := Tryz.zeroValue97 }
theorem Tryz.Builder_Extra_169 : Builder.Extra Tryz.prog Tryz.lays169_ren := {
  sizeBuilder := by kernel_rfl
  liesBuilder := by kernel_rfl
  t5 := Tryz.underlying5
  a5 := Tryz.isAgg5
  z5 := Tryz.sizeOf5
  v5 := Tryz.zeroValue5
  infoByte := by kernel_rfl
  cellsByte := by kernel_rfl
  sizeByte := by kernel_rfl
  neB5 := by decide }
open Go.RowKit in
theorem Tryz.Builder_String_any (B b : Nat) (l : List UInt8) (w : World) (h : Lib.IsBuilder 62 5 B b (Lib.byteCells l) w) (hBw : B ≤ w.heap.size) :
    Calls Tryz.prog 35 #[.pointer (some ⟨b, 0, none⟩)] w fun e w' => e = .returned (.string ⟨l.toArray⟩) ∧ Below B w w' := Any.Builder_String_any Tryz.lays169 Tryz.Builder_Extra_169 B b l w h hBw
end Go.Proofs
namespace Go.Proofs.YtechaplindbfoaaGreatDoor.jsn
open Go.Shelf
def ren166 : Go.Shelf.Ren := ⟨fun | 166 => 34 | 240 => 61 | 276 => 83 | n => n, fun | 0 => 0 | 3 => 3 | 4 => 4 | 9 => 9 | 20 => 20 | 37 => 34 | 70 => 60 | 72 => 62 | 75 => 65 | 164 => 122 | 5 => 5 | 80 => 68 | n => n, fun | n => n⟩
theorem lays166 : Go.Proofs.Lays.n166 Tryz.prog ren166 := {
  mixed := by kernel_rfl
  f166 := Tryz.func34.trans (congrArg some (by kernel_rfl))
  f240 := Tryz.func61.trans (congrArg some (by kernel_rfl))
  f276 := Tryz.func83.trans (congrArg some (by kernel_rfl))
  t0 := Tryz.underlying0
  a0 := Tryz.isAgg0
  z0 := Tryz.sizeOf0
  v0 := Tryz.zeroValue0
  t3 := Tryz.underlying3
  a3 := Tryz.isAgg3
  z3 := Tryz.sizeOf3
  v3 := Tryz.zeroValue3
  t4 := Tryz.underlying4
  a4 := Tryz.isAgg4
  z4 := Tryz.sizeOf4
  v4 := Tryz.zeroValue4
  t9 := Tryz.underlying9
  a9 := Tryz.isAgg9
  z9 := Tryz.sizeOf9
  v9 := Tryz.zeroValue9
  t20 := Tryz.underlying20
  a20 := Tryz.isAgg20
  z20 := Tryz.sizeOf20
  v20 := Tryz.zeroValue20
  t37 := Tryz.underlying34
  a37 := Tryz.isAgg34
  z37 := Tryz.sizeOf34
  v37 := Tryz.zeroValue34
  t70 := Tryz.underlying60
  a70 := Tryz.isAgg60
  z70 := Tryz.sizeOf60
  v70 := Tryz.zeroValue60
  t72 := Tryz.underlying62
  a72 := Tryz.isAgg62
  z72 := Tryz.sizeOf62
  v72 := Tryz.zeroValue62
  t75 := Tryz.underlying65
  a75 := Tryz.isAgg65
  z75 := Tryz.sizeOf65
  v75 := Tryz.zeroValue65
  t164 := Tryz.underlying122
  a164 := Tryz.isAgg122
  z164 := Tryz.sizeOf122
  v164 := Tryz.zeroValue122 }
theorem extra166 : Builder.Extra Tryz.prog ren166 := {
  sizeBuilder := by kernel_rfl
  liesBuilder := by kernel_rfl
  t5 := Tryz.underlying5
  a5 := Tryz.isAgg5
  z5 := Tryz.sizeOf5
  v5 := Tryz.zeroValue5
  infoByte := by kernel_rfl
  cellsByte := by kernel_rfl
  sizeByte := by kernel_rfl
  neB5 := by decide }
open Go.RowKit in
theorem writeString (B b : Nat) (bs : List Value) (s : ByteArray) (w : World) (h : Lib.IsBuilder 62 5 B b bs w) (hlen : bs.length + s.size ≤ 140737488355328) (hBw : B ≤ w.heap.size) :
    Calls Tryz.prog 34 #[.pointer (some ⟨b, 0, none⟩), .string s] w fun e w' => e = .returned (.tuple #[.int .i64 s.size, .nilIface]) ∧ (Lib.BuilderAt 62 5 B b (.pointer (some ⟨b, 0, none⟩)) (bs ++ Lib.strCells s) w' ∧ Below B w w') := Any.Builder_WriteString lays166 extra166 B b bs s w h hlen hBw
end Go.Proofs.YtechaplindbfoaaGreatDoor.jsn
namespace Go.Proofs.YtechaplindbfoaaGreatDoor.jsn
open Go.ChangeShapes Go.WideShapes Go.ChangeAt Go.RowKit
open mem
open ints (hide unhide)
set_option linter.unusedVariables false

theorem bld_below {T e : TypeId} {B b : Nat} {p : Value} {bs : List Value} {w w' : World} (h : Lib.BuilderAt T e B b p bs w) (hb : Below w.heap.size w w') : Lib.BuilderAt T e B b p bs w' := by
  have hlt := h.lt
  obtain ⟨hB, v, hbk, hown, hne⟩ := h
  exact ⟨hB, v, (hb.block b hlt).trans hbk, own_below hown hb, hne⟩
def bI (B b : Nat) (l : List UInt8) (w : World) : Prop := Lib.IsBuilder 62 5 B b (Lib.byteCells l) w ∧ B ≤ w.heap.size
theorem cells_app (l : List UInt8) (s : ByteArray) : Lib.byteCells l ++ Lib.strCells s = Lib.byteCells (l ++ s.data.toList) := by simp [Lib.byteCells, Lib.strCells]
theorem pen_b (B b : Nat) : Pen 33 #[.pointer (some ⟨b, 0, none⟩)] B (bI B b) (Below B) where
  gtrans := fun h1 h2 => h1.trans h2
  gnew := fun h1 h2 => h2.mono h1
  gbel := fun h => h
  low := fun l w h => h.2
  keep := fun l w w' h hb => ⟨h.1.imp (fun h => bld_below h hb) (fun h => bld_below h hb), Nat.le_trans h.2 hb.size⟩
  enters := enters_of Tryz.func33 (by kernel_rfl) rfl
  lays := by
    intro l s w h hl
    show Calls Tryz.prog 33 #[.string s, .pointer (some ⟨b, 0, none⟩)] w _
    go_enter Tryz.func33, Tryz.ntmps33
    go_wp2_with fail
    refine (writeString B b (Lib.byteCells l) s w h.1 (by rw [Lib.byteCells_length]; omega) h.2).mono ?_
    rintro e w1 ⟨rfl, h1, b1⟩
    go_wp2
    go_end0
    rw [cells_app] at h1
    exact ⟨rfl, ⟨.inr h1, Nat.le_trans h.2 b1.size⟩, b1⟩
/-- well formed -/
def cln (s : ByteArray) : Bool := (((decZ (bytesZ s)).2 : Nat) : Int) == (s.size : Int)
def txS (s : ByteArray) : ByteArray := if cln s = true then ⟨(txt s.data.toList).toArray⟩ else ⟨#[]⟩
def txE (s : ByteArray) : Int := if cln s = true then 0 else 1
set_option maxHeartbeats 2000000 in
theorem text_any (s : ByteArray) (w : World) (hs : s.size ≤ 1099511627776) :
    Calls Tryz.prog 16 #[.string s] w fun e w' => e = .returned (.tuple #[.string (txS s), .int .i64 (txE s)]) ∧ Below w.heap.size w w' := by
  have hmf : ∀ (fn : Fn) (first cap : Array Value) (w : World), (Instr.makeFunc fn first cap).run Tryz.prog w = .ok (.func fn first cap) w := fun _ _ _ _ => rfl
  have C := hide (fun W => clean_str s W (by omega))
  have P := hide (fun W => Lib.fresh_isBuilder 62 5 W)
  have hC : ((((decZ (bytesZ s)).2 : Nat) : Int) == (s.size : Int)) = cln s := rfl
  rw [hC] at C
  clear hC
  unfold txS txE
  cases hc : cln s
  · rw [hc] at C
    clear hc
    go_enter Tryz.func16, Tryz.ntmps16
    go_wp2_with fail
    refine (unhide C _).mono ?_
    rintro e w1 ⟨rfl, b1⟩
    clear C
    go_wp2
    go_ret2
    exact ⟨rfl, b1⟩
  · rw [hc] at C
    clear hc
    go_enter Tryz.func16, Tryz.ntmps16
    go_wp2_with fail
    refine (unhide C _).mono ?_
    rintro e w1 ⟨rfl, b1⟩
    clear C
    go_wp2_with fail
    refine (layText_any _ _ w1.heap.size (bI w1.heap.size w1.heap.size) _ (pen_b _ _) [] s _ ⟨unhide P w1, by simp⟩ (by have := body_len s.data.toList; have := size_list s; simp only [txt_len, List.length_nil]; omega)).mono ?_
    rintro e w2 ⟨rfl, i2, b2⟩
    have hne : w1.heap.size ≤ w2.heap.size := by have := b2.size; simp at this; omega
    go_wp2_with fail
    refine (Tryz.Builder_String_any w1.heap.size w1.heap.size _ w2 i2.1 hne).mono ?_
    rintro e w3 ⟨rfl, b3⟩
    go_wp2
    go_ret2
    refine ⟨rfl, b1.trans ?_⟩
    have b4 : Below w1.heap.size w1 w2 := ((Below.refl _ w1).alloc (Nat.le_refl _) _).trans b2
    exact (b4.trans b3).mono b1.size
end Go.Proofs.YtechaplindbfoaaGreatDoor.jsn
