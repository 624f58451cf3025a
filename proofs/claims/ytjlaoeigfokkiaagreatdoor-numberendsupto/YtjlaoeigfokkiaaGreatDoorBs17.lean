import Derived.Test.YtjlaoeigfokkiaaGreatDoorBs8
import Derived.Test.YtjlaoeigfokkiaaGreatDoorBs5
import Derived.Test.YtjlaoeigfokkiaaGreatDoorBs14
import Derived.Laws.Cover2
import Derived.Laws.FloatArith
import Derived.Laws.Externs
import Derived.Laws.BitsAllLaws
namespace Go.Proofs.YtjlaoeigfokkiaaGreatDoor.dcm
open Go.ChangeShapes Go.WideShapes Go.ChangeAt Go.RowKit
open mem
open ints (hide unhide)
set_option linter.unusedVariables false
set_option linter.unusedSimpArgs false
theorem RSh.few60 {s s' : Dcs} {k : Nat} (h : RSh s s' k) (hs : Std s) (hk : k ≤ 60) : s.dp - 20 ≤ s'.dp ∧ s'.dp ≤ s.dp := by
  obtain ⟨j, e1, e2, e3⟩ := h.ex
  have : j ≤ 20 := by
    rcases Nat.lt_or_ge 20 j with g | g
    · exfalso
      have a1 : dvN s' 800 < T8 := dvN_lt8 h.std.ok
      have a2 : T79 * 10 ^ 21 ≤ dvN s 800 * 10 ^ j := Nat.mul_le_mul hs.lead (Nat.pow_le_pow_right (by decide) g)
      have a3 : 2 ^ k ≤ 2 ^ 60 := Nat.pow_le_pow_right (by decide) hk
      have a4 : dvN s 800 * 10 ^ j < T8 * 2 ^ k := by
        rw [e2] at a1
        exact (Nat.div_lt_iff_lt_mul (Nat.two_pow_pos _)).1 a1
      have a5 : T8 * 2 ^ k ≤ T8 * 2 ^ 60 := Nat.mul_le_mul_left _ a3
      rw [T8_eq] at a4 a5
      have c0 : 0 < T79 := T79_pos
      generalize T79 = C at *
      omega
    · exact g
  omega
set_option maxRecDepth 100000 in
theorem shiftL_ok (b k : Nat) (s : Dcs) (w : World) (h : Dec w b s) (hs : Std s) (hk1 : 1 ≤ k) (hk : k ≤ 60) (hp : -100000 ≤ s.dp ∧ s.dp ≤ 100000) (hc : LC w b) :
    Calls Tryz.prog 137 #[.pointer (some ⟨b, 0, none⟩), .int .i64 k] w fun e w' => e = .returned (.tuple #[]) ∧ (∃ s', LSh s s' k ∧ Dec w' b s') ∧ Below b w w' ∧ w.heap.size ≤ w'.heap.size := by
  have C := hide (lshift_ok b k s w h hs hk1 hk hp hc)
  have c0 := h.cnd
  have hl := h.lt
  have hn0 := hs.pos
  obtain ⟨n, hn⟩ : ∃ n : Nat, n = s.nd := ⟨_, rfl⟩
  rw [← hn] at c0 hn0
  have e0 : ((n : Int) == 0) = false := by rw [beq_eq_false_iff_ne]; omega
  have k0 : (0 : Int) < (k : Int) := by omega
  have k6 : (k : Int) ≤ 60 := by omega
  have kc : IntKind.u64.wrap (k : Int) = (k : Int) := by rw [IntKind.wrap_u64]; omega
  clear h hs hn hc hp
  go_enter Tryz.func137, Tryz.ntmps137
  go_wp2_with fail
  go_loopw [1] (fun kv wr => kv = .int .i64 (k : Int) ∧ wr = w) (fun _ _ => 0)
  case atStart => exact ⟨rfl, rfl⟩
  case round =>
    obtain ⟨rfl, hwr⟩ := hrel
    subst wr
    go_wp2_with fail
    refine (unhide C).mono ?_
    rintro e w1 ⟨rfl, h1, h2, h3⟩
    have H1 := hide h1
    have H2 := hide h2
    have H3 := hide h3
    clear h1 h2 h3
    go_wp2
    go_end0
    exact ⟨rfl, unhide H1, unhide H2, unhide H3⟩
set_option maxRecDepth 100000 in
theorem shiftR_ok (b k : Nat) (s : Dcs) (w : World) (h : Dec w b s) (hs : Std s) (hk1 : 1 ≤ k) (hk : k ≤ 60) (hp : -100000 ≤ s.dp ∧ s.dp ≤ 100000) :
    Calls Tryz.prog 137 #[.pointer (some ⟨b, 0, none⟩), .int .i64 (-(k : Int))] w fun e w' => e = .returned (.tuple #[]) ∧ (∃ s', RSh s s' k ∧ Dec w' b s') ∧ Below b w w' ∧ w.heap.size ≤ w'.heap.size := by
  have C := hide (rshift_ok b k s w h hs hk1 hk hp)
  have c0 := h.cnd
  have hl := h.lt
  have hn0 := hs.pos
  obtain ⟨n, hn⟩ : ∃ n : Nat, n = s.nd := ⟨_, rfl⟩
  rw [← hn] at c0 hn0
  have e0 : ((n : Int) == 0) = false := by rw [beq_eq_false_iff_ne]; omega
  have k0 : ¬ (0 : Int) < -(k : Int) := by omega
  have k1 : -(k : Int) < 0 := by omega
  have k6 : (-60 : Int) ≤ -(k : Int) := by omega
  have kn : IntKind.i64.wrap (- -(k : Int)) = (k : Int) := by rw [IntKind.wrap_i64]; omega
  have kc : IntKind.u64.wrap (k : Int) = (k : Int) := by rw [IntKind.wrap_u64]; omega
  clear h hs hn hp
  go_enter Tryz.func137, Tryz.ntmps137
  go_wp2_with fail
  go_loopw [1] (fun kv wr => kv = .int .i64 (-(k : Int)) ∧ wr = w) (fun _ _ => 0)
  case atStart => exact ⟨rfl, rfl⟩
  case round =>
    obtain ⟨rfl, hwr⟩ := hrel
    subst wr
    go_wp2_with fail
    refine (unhide C).mono ?_
    rintro e w1 ⟨rfl, h1, h2, h3⟩
    have H1 := hide h1
    have H2 := hide h2
    have H3 := hide h3
    clear h1 h2 h3
    go_wp2
    go_end0
    exact ⟨rfl, unhide H1, unhide H2, by rw [unhide H3]; exact Nat.le_refl _⟩
set_option maxRecDepth 100000 in
theorem shiftR2_ok (b k : Nat) (s : Dcs) (w : World) (h : Dec w b s) (hs : Std s) (hk1 : 61 ≤ k) (hk : k ≤ 120) (hp : -90000 ≤ s.dp ∧ s.dp ≤ 90000) :
    Calls Tryz.prog 137 #[.pointer (some ⟨b, 0, none⟩), .int .i64 (-(k : Int))] w fun e w' => e = .returned (.tuple #[]) ∧ (∃ s1 s', RSh s s1 60 ∧ RSh s1 s' (k - 60) ∧ Dec w' b s') ∧ Below b w w' ∧ w.heap.size ≤ w'.heap.size := by
  have C := hide (rshift_ok b 60 s w h hs (by omega) (by omega) (by omega))
  have c0 := h.cnd
  have hl := h.lt
  have hn0 := hs.pos
  have HS := hide hs
  have HP := hide hp
  obtain ⟨n, hn⟩ : ∃ n : Nat, n = s.nd := ⟨_, rfl⟩
  rw [← hn] at c0 hn0
  have e0 : ((n : Int) == 0) = false := by rw [beq_eq_false_iff_ne]; omega
  have k0 : ¬ (0 : Int) < -(k : Int) := by omega
  have k1 : -(k : Int) < 0 := by omega
  obtain ⟨m, hm⟩ : ∃ m : Nat, m = k - 60 := ⟨_, rfl⟩
  have kn : IntKind.i64.wrap (- -(m : Int)) = (m : Int) := by rw [IntKind.wrap_i64]; omega
  have kc : IntKind.u64.wrap (m : Int) = (m : Int) := by rw [IntKind.wrap_u64]; omega
  rw [← hm]
  have HM := hide hm
  clear h hs hn hp hm
  go_enter Tryz.func137, Tryz.ntmps137
  go_wp2_with fail
  go_loopw [1] (fun kv wr => (kv = .int .i64 (-(k : Int)) ∧ wr = w) ∨ (kv = .int .i64 (-(m : Int)) ∧ (∃ s1, RSh s s1 60 ∧ Dec wr b s1) ∧ Below b w wr ∧ wr.heap.size = w.heap.size)) (fun kv _ => (- intOf kv).toNat)
  case atStart => exact Or.inl ⟨rfl, rfl⟩
  case round =>
    rcases hrel with ⟨rfl, hwr⟩ | ⟨rfl, ⟨s1, hr1, hd1⟩, hb1, hz1⟩
    · subst wr
      have k6 : -(k : Int) < -60 := by omega
      have kx : IntKind.i64.wrap (-(k : Int) + 60) = -(m : Int) := by have := unhide HM; rw [IntKind.wrap_i64]; omega
      go_wp2_with fail
      refine (unhide C).mono ?_
      rintro e w1 ⟨rfl, ⟨s1, hr1, hd1⟩, h2, h3⟩
      have H0 := hide hr1
      have H1 := hide hd1
      have H2 := hide h2
      have H3 := hide h3
      clear hr1 hd1 h2 h3
      go_wp2
      go_roundw
      case rel => exact Or.inr ⟨rfl, ⟨s1, unhide H0, unhide H1⟩, unhide H2, unhide H3⟩
      case measure => have := unhide HM; simp [intOf]; omega
    · have hf := hr1.few60 (unhide HS) (by omega)
      have C2 := hide (rshift_ok b m s1 wr hd1 hr1.std (by have := unhide HM; omega) (by have := unhide HM; omega) (by have := unhide HP; omega))
      have k6 : (-60 : Int) ≤ -(m : Int) := by have := unhide HM; omega
      have hl1 := hd1.lt
      have H0 := hide hr1
      have H2 := hide hb1
      have H3 := hide hz1
      clear hr1 hd1 hb1 hz1 hf
      go_wp2_with fail
      refine (unhide C2).mono ?_
      rintro e w1 ⟨rfl, ⟨s2, hr2, hd2⟩, h2, h3⟩
      have G0 := hide hr2
      have G1 := hide hd2
      have G2 := hide h2
      have G3 := hide h3
      clear hr2 hd2 h2 h3
      go_wp2
      go_end0
      exact ⟨rfl, ⟨s1, s2, unhide H0, unhide G0, unhide G1⟩, (unhide H2).trans (unhide G2), by rw [unhide G3, unhide H3]; exact Nat.le_refl _⟩
end Go.Proofs.YtjlaoeigfokkiaaGreatDoor.dcm
namespace Go.Proofs.YtjlaoeigfokkiaaGreatDoor.dcm
set_option linter.unusedVariables false
open mem
theorem lt_mul_iff {a b k : Nat} (hk : 0 < k) : a * k < b * k ↔ a < b := ⟨fun h => Nat.lt_of_mul_lt_mul_right h, fun h => Nat.mul_lt_mul_of_pos_right h hk⟩
theorem eq_mul_iff {a b k : Nat} (hk : 0 < k) : a * k = b * k ↔ a = b := ⟨fun h => Nat.eq_of_mul_eq_mul_right hk h, fun h => by rw [h]⟩
/-- a number by its mantissa and exponent: the float below it, and the nearest -/
theorem enc_ok {P B U W K : Nat} (hB : 0 < B) (hW : 0 < W) (e : P * W = U * B * 2 ^ K) (hA : (U / W < b52 ∧ K = 0) ∨ (b52 ≤ U / W ∧ U / W < b53)) :
    Lo P B (K * b52 + U / W) ∧ roundR P B (K * b52 + U / W) = K * b52 + rn U W := by
  have hU := Nat.div_add_mod U W
  have hl := Nat.mod_lt U hW
  unfold rn
  generalize U / W = A at *
  generalize U % W = r at *
  have hx : exR (K * b52 + A) = K := by unfold exR b52; unfold b52 b53 at hA; omega
  have hm : mantR (K * b52 + A) = A := by unfold mantR b52; unfold b52 b53 at hA; split <;> omega
  have hv : vR (K * b52 + A) = A * 2 ^ K := by unfold vR; rw [hx, hm]
  have hp : (K * b52 + A) % 2 = A % 2 := by unfold b52; omega
  have hk : 0 < 2 ^ K := Nat.two_pow_pos _
  have hBK : 0 < B * 2 ^ K := Nat.mul_pos hB hk
  have e2 : P * W = U * (B * 2 ^ K) := by rw [e, Nat.mul_assoc]
  have hWA : W * A + r = U := hU
  have l1 : B * (A * 2 ^ K) * W = W * A * (B * 2 ^ K) := by rw [Nat.mul_left_comm B, Nat.mul_comm W A, Nat.mul_right_comm]
  constructor
  · unfold Lo
    rw [vR_succ, hv, hx]
    constructor
    · rw [← le_mul_iff hW, l1, e2, le_mul_iff hBK]; omega
    · have l2 : B * (A * 2 ^ K + 2 ^ K) * W = (W * A + W) * (B * 2 ^ K) := by rw [Nat.mul_add, Nat.add_mul, l1, Nat.add_mul]; congr 1; rw [Nat.mul_comm]
      rw [← lt_mul_iff hW, l2, e2, lt_mul_iff hBK]; omega
  · unfold roundR
    rw [hv, hx, hp]
    have l3 : B * (2 * (A * 2 ^ K) + 2 ^ K) * W = (2 * (W * A) + W) * (B * 2 ^ K) := by
      rw [Nat.mul_add, Nat.add_mul, Nat.mul_left_comm B 2, Nat.mul_assoc 2, l1, Nat.add_mul, Nat.mul_assoc 2]; congr 1; rw [Nat.mul_comm]
    have l4 : 2 * P * W = 2 * U * (B * 2 ^ K) := by rw [Nat.mul_assoc, e2, Nat.mul_assoc]
    have c1 : B * (2 * (A * 2 ^ K) + 2 ^ K) < 2 * P ↔ W < 2 * r := by
      rw [← lt_mul_iff hW, l3, l4, lt_mul_iff hBK]; omega
    have c2 : 2 * P = B * (2 * (A * 2 ^ K) + 2 ^ K) ↔ W = 2 * r := by
      rw [← eq_mul_iff hW, l3, l4, eq_mul_iff hBK]; omega
    simp only [c1, c2]
    by_cases g1 : W < 2 * r
    · simp [g1]; omega
    · by_cases g2 : W = 2 * r
      · by_cases g3 : A % 2 = 1
        · simp [← g2, g3]; omega
        · simp [← g2, g3]
      · simp [g1, g2]
/-- ten's powers against two's, as far as strconv's decimal goes -/
theorem ten_two_a : ∀ q, q < 331 → 10 ^ (q + 1) ≤ 2 ^ (773 + q) := by decide +kernel
theorem ten_two_b : ∀ q, q < 275 → 10 ^ (q + 1) ≤ 2 ^ (747 + q) := by decide +kernel
theorem ten_two_c : ∀ q, q < 307 → 10 ^ (q + 1) ≤ 2 ^ 1022 := by decide +kernel
theorem ten_two_d : 10 ^ 9 ≤ 2 ^ 30 := by decide +kernel
theorem two_lt {a b : Nat} (h : (2 : Nat) ^ a < 2 ^ b) : a < b := by
  rcases Nat.lt_or_ge a b with g | g
  · exact g
  · exact absurd (Nat.pow_le_pow_right (by decide : 0 < 2) g) (by omega)
/-- how far the shifts to the left may go -/
theorem left_far {l q : Nat} (h : 2 ^ l < 10 ^ (q + 1)) (hq : q ≤ 330) : l + 28 ≤ 800 + q := by
  have := two_lt (Nat.lt_of_lt_of_le h (ten_two_a q (by omega)))
  omega
theorem left_norm {l q : Nat} (h : 2 ^ l < 10 ^ (q + 1)) (hl : l ≤ 1021) : l + 54 ≤ 800 + q := by
  rcases Nat.lt_or_ge q 275 with g | g
  · have := two_lt (Nat.lt_of_lt_of_le h (ten_two_b q g))
    omega
  · omega
theorem left_sub {l q : Nat} (h : 2 ^ l < 10 ^ (q + 1)) (hl : 1022 ≤ l) : 307 ≤ q := by
  rcases Nat.lt_or_ge q 307 with g | g
  · have := two_lt (Nat.lt_of_lt_of_le h (ten_two_c q g))
    omega
  · exact g
end Go.Proofs.YtjlaoeigfokkiaaGreatDoor.dcm
namespace Go.Proofs.YtjlaoeigfokkiaaGreatDoor.dcm
open Go.ChangeShapes Go.WideShapes Go.ChangeAt Go.RowKit
open mem
open ints (hide unhide)
set_option linter.unusedVariables false
set_option linter.unusedSimpArgs false
def n31 : Nat := 310
def n1060 : Nat := 1060
/-- As Q; by a goto: J of its label -/
def jumpL (J : Nat → Act → World → Prop) (Q : Exit → Act → World → Prop) : Exit → Act → World → Prop
  | .goto l, a, w => J l a w
  | e, a, w => Q e a w
/-- a scope with jumps ahead to two labels: what stands behind label 1 may jump to label 0 -/
theorem scope_two {P : Program} {Q : Exit → Act → World → Prop} {a : Act} {w : World} {c r0 r1 : Code} (h0 : findLabel c 0 = some r0) (h1 : findLabel c 1 = some r1)
    (h : c.wp P (jumpL (fun l a w => if l = 0 then r0.wp P (Exit.noGoto Q) a w else if l = 1 then r1.wp P (Exit.noGoto Q) a w else False) Q) a w) : (Code.scope c).wp P Q a w := by
  intro b k cs
  have key : ∀ (l : Nat) (rest : Code) a1 w1, findLabel c l = some rest → rest.wp P (Exit.noGoto Q) a1 w1 → ∃ e a' w', Q e a' w' ∧ (∀ m, (∀ k', gotoIn l (.inScope c :: k) = some k' → Steps P m (lone (b.at a1 k') cs w1)) → Arrives P m b k cs e a' w') := by
    intro l rest a1 w1 hf hr
    have hg : gotoIn l (.inScope c :: k) = some (.code rest :: .inScope c :: k) := by simp [gotoIn, hf]
    obtain ⟨e, a2, w2, hq, harr⟩ := hr b (.inScope c :: k) cs
    cases e with
    | normal => exact ⟨.normal, a2, w2, hq, fun m hm => Steps.trans (hm _ hg) (Steps.trans harr (.one step_inScope))⟩
    | exit id => exact ⟨.exit id, a2, w2, hq, fun m hm k' hk => Steps.trans (hm _ hg) (harr k' (by simp [exitTo, hk]))⟩
    | goto l' => exact hq.elim
    | ret => exact ⟨.ret, a2, w2, hq, fun m hm => .of_steps (hm _ hg) harr⟩
    | panic ch => exact ⟨.panic ch, a2, w2, hq, fun m hm => .of_steps (hm _ hg) harr⟩
    | outgrown => exact ⟨.outgrown, a2, w2, hq, fun m hm => .of_steps (hm _ hg) harr⟩
  obtain ⟨e, a1, w1, hq, harr⟩ := h b (.inScope c :: k) cs
  cases e with
  | normal => exact ⟨.normal, a1, w1, hq, .head step_scope (Steps.trans harr (.one step_inScope))⟩
  | exit id => exact ⟨.exit id, a1, w1, hq, fun k' hk => .head step_scope (harr k' (by simp [exitTo, hk]))⟩
  | goto l =>
    have hq : (if l = 0 then r0.wp P (Exit.noGoto Q) a1 w1 else if l = 1 then r1.wp P (Exit.noGoto Q) a1 w1 else False) := hq
    by_cases e0 : l = 0
    · subst e0
      rw [if_pos rfl] at hq
      obtain ⟨e, a2, w2, hq2, hstep⟩ := key 0 r0 a1 w1 h0 hq
      exact ⟨e, a2, w2, hq2, .of_steps (.one step_scope) (hstep _ fun k' hk => harr k' hk)⟩
    · rw [if_neg e0] at hq
      by_cases e1 : l = 1
      · subst e1
        rw [if_pos rfl] at hq
        obtain ⟨e, a2, w2, hq2, hstep⟩ := key 1 r1 a1 w1 h1 hq
        exact ⟨e, a2, w2, hq2, .of_steps (.one step_scope) (hstep _ fun k' hk => harr k' hk)⟩
      · rw [if_neg e1] at hq
        exact hq.elim
  | ret => exact ⟨_, a1, w1, hq, .of_steps (.one step_scope) harr⟩
  | panic ch => exact ⟨_, a1, w1, hq, .of_steps (.one step_scope) harr⟩
  | outgrown => exact ⟨_, a1, w1, hq, .of_steps (.one step_scope) harr⟩
theorem rn_bd (U W : Nat) : U / W ≤ rn U W ∧ rn U W ≤ U / W + 1 := by
  unfold rn
  have := Bool.toNat_le (decide (W < 2 * (U % W)) || (decide (W = 2 * (U % W)) && decide (U / W % 2 = 1)))
  omega
theorem k74_pow : k74 = 2 ^ (1021 + 53) := by unfold k74; rw [show 52 + e22 = 1021 + 53 from rfl]
/-- a number between a half and one, times two to a power that is no power below the least: its float -/
theorem end_norm {X Y a l K : Nat} (hY : 0 < Y) (h1 : X * 2 ^ l < Y * 2 ^ a) (h2 : Y * 2 ^ a ≤ X * 2 ^ l * 2) (hK : K + l = a + 1021) :
    (∃ lo, Lo (X * k74) Y lo ∧ roundR (X * k74) Y lo = K * b52 + rn (X * 2 ^ l * 2 ^ 53) (Y * 2 ^ a)) ∧ b52 ≤ rn (X * 2 ^ l * 2 ^ 53) (Y * 2 ^ a) ∧ rn (X * 2 ^ l * 2 ^ 53) (Y * 2 ^ a) ≤ b53 := by
  have hW : 0 < Y * 2 ^ a := Nat.mul_pos hY (Nat.two_pow_pos _)
  have e53 : (2 : Nat) ^ 53 = b53 := rfl
  have hA : b52 ≤ X * 2 ^ l * 2 ^ 53 / (Y * 2 ^ a) ∧ X * 2 ^ l * 2 ^ 53 / (Y * 2 ^ a) < b53 := by
    rw [e53]
    generalize Y * 2 ^ a = W at *
    generalize X * 2 ^ l = U at *
    have e2 : b53 = 2 * b52 := rfl
    constructor
    · rw [Nat.le_div_iff_mul_le hW, e2, ← Nat.mul_assoc, Nat.mul_comm b52]
      exact Nat.mul_le_mul_right _ h2
    · rw [Nat.div_lt_iff_lt_mul hW, Nat.mul_comm b53]
      exact Nat.mul_lt_mul_of_pos_right h1 (by decide)
  have hb := rn_bd (X * 2 ^ l * 2 ^ 53) (Y * 2 ^ a)
  have he : X * k74 * (Y * 2 ^ a) = X * 2 ^ l * 2 ^ 53 * Y * 2 ^ K := by
    have q1 : X * k74 * (Y * 2 ^ a) = X * Y * 2 ^ (1021 + 53 + a) := by
      rw [k74_pow, Nat.pow_add 2 (1021 + 53) a, Nat.mul_mul_mul_comm]
    have q2 : X * 2 ^ l * 2 ^ 53 * Y * 2 ^ K = X * Y * 2 ^ (l + 53 + K) := by
      rw [Nat.pow_add 2 (l + 53) K, Nat.pow_add 2 l 53]
      simp only [Nat.mul_assoc, Nat.mul_left_comm, Nat.mul_comm]
    rw [q1, q2, show 1021 + 53 + a = l + 53 + K by omega]
  have := enc_ok (K := K) hY hW he (Or.inr hA)
  exact ⟨⟨_, this.1, this.2⟩, by omega, by omega⟩
/-- and below it -/
theorem end_sub {X Y a l n : Nat} (hY : 0 < Y) (h1 : X * 2 ^ l < Y * 2 ^ a) (hn : 1 ≤ n) (hK : l = a + n + 1021) :
    (∃ lo, Lo (X * k74) Y lo ∧ roundR (X * k74) Y lo = rn (X * 2 ^ l * 2 ^ 53) (Y * 2 ^ a * 2 ^ n)) ∧ rn (X * 2 ^ l * 2 ^ 53) (Y * 2 ^ a * 2 ^ n) ≤ b52 := by
  have hW : 0 < Y * 2 ^ a * 2 ^ n := Nat.mul_pos (Nat.mul_pos hY (Nat.two_pow_pos _)) (Nat.two_pow_pos _)
  have e53 : (2 : Nat) ^ 53 = b53 := rfl
  have hA : X * 2 ^ l * 2 ^ 53 / (Y * 2 ^ a * 2 ^ n) < b52 := by
    rw [Nat.div_lt_iff_lt_mul hW, e53]
    have h2 : 2 ^ 1 ≤ 2 ^ n := Nat.pow_le_pow_right (by decide) hn
    generalize Y * 2 ^ a = W at *
    generalize X * 2 ^ l = U at *
    have e2 : b53 = b52 * 2 := rfl
    have h3 : U * b53 < W * b53 := Nat.mul_lt_mul_of_pos_right h1 (by decide)
    have h4 : W * b53 ≤ b52 * (W * 2 ^ n) := by
      rw [e2, ← Nat.mul_assoc, Nat.mul_comm W b52, Nat.mul_assoc]
      exact Nat.mul_le_mul_left _ (Nat.mul_le_mul_left _ h2)
    omega
  have hb := rn_bd (X * 2 ^ l * 2 ^ 53) (Y * 2 ^ a * 2 ^ n)
  have he : X * k74 * (Y * 2 ^ a * 2 ^ n) = X * 2 ^ l * 2 ^ 53 * Y * 2 ^ 0 := by
    have q1 : X * k74 * (Y * 2 ^ a * 2 ^ n) = X * Y * 2 ^ (1021 + 53 + (a + n)) := by
      rw [k74_pow, Nat.pow_add 2 (1021 + 53) (a + n), Nat.pow_add 2 a n, Nat.mul_assoc Y, Nat.mul_mul_mul_comm]
    have q2 : X * 2 ^ l * 2 ^ 53 * Y * 2 ^ 0 = X * Y * 2 ^ (l + 53) := by
      rw [Nat.pow_add 2 l 53, Nat.pow_zero, Nat.mul_one]
      simp only [Nat.mul_assoc, Nat.mul_left_comm, Nat.mul_comm]
    rw [q1, q2, show 1021 + 53 + (a + n) = l + 53 by omega]
  have := enc_ok (K := 0) hY hW he (Or.inl ⟨hA, rfl⟩)
  rw [Nat.zero_mul, Nat.zero_add, Nat.zero_add] at this
  exact ⟨⟨_, this.1, this.2⟩, by omega⟩
/-- the table of floatBits' shifts, below block c -/
def PW (w : World) (c : Nat) : Prop := ∃ tb o cap, w.cell? ⟨13, 0, none⟩ = some (.slice (some ⟨tb, o, none⟩) 9 cap) ∧ tb < c ∧ 13 < c ∧
  ∀ q, q < 9 → w.cell? ⟨tb, o + q, none⟩ = some (.int .i64 (ptab q : Int))
/-- float64's numbers -/
def FI (w : World) (c : Nat) : Prop := 9 < c ∧ w.cell? ⟨9, 0, none⟩ = some (.int .u64 52) ∧ w.cell? ⟨9, 1, none⟩ = some (.int .u64 11) ∧ w.cell? ⟨9, 2, none⟩ = some (.int .i64 (-1023))
theorem PW.below {w w' : World} {c : Nat} (h : PW w c) (hb : Below c w w') : PW w' c := by
  obtain ⟨tb, o, cap, h1, h2, h3, h4⟩ := h
  exact ⟨tb, o, cap, (hb.cell (p := ⟨13, 0, none⟩) h3).trans h1, h2, h3, fun q hq => (hb.cell (p := ⟨tb, o + q, none⟩) h2).trans (h4 q hq)⟩
theorem FI.below {w w' : World} {c : Nat} (h : FI w c) (hb : Below c w w') : FI w' c :=
  ⟨h.1, (hb.cell (p := ⟨9, 0, none⟩) h.1).trans h.2.1, (hb.cell (p := ⟨9, 1, none⟩) h.1).trans h.2.2.1, (hb.cell (p := ⟨9, 2, none⟩) h.1).trans h.2.2.2⟩
theorem LC.below {w w' : World} {c : Nat} (h : LC w c) (hb : Below c w w') (hs : w.heap.size ≤ w'.heap.size) : LC w' c := by
  obtain ⟨tb, o, cap, h1, h2, h3, h5, h4⟩ := h
  exact ⟨tb, o, cap, (hb.cell (p := ⟨16, 0, none⟩) h3).trans h1, h2, h3, by omega, fun k hk => ⟨(hb.cell (p := ⟨tb, o + k * 2, none⟩) h2).trans (h4 k hk).1, (hb.cell (p := ⟨tb, o + k * 2 + 1, none⟩) h2).trans (h4 k hk).2⟩⟩
/-- a number is below 10 ^ 310 -/
theorem St.most {X Y E : Nat} {s : Dcs} (h : St X Y s E) : X < 10 ^ n31 * Y := by
  have g := (h.gr.mono (Nat.zero_le E)) (10 ^ n31)
  rw [Nat.pow_zero, Nat.mul_one, Nat.mul_one] at g
  rcases Nat.lt_or_ge X (10 ^ n31 * Y) with q | q
  · exact q
  · exfalso
    have h1 := g.1 q
    have h2 := dvN_lt8 h.std.ok
    have h3 := h.dp
    rw [← Nat.pow_add, pow_T8 (c := n31 + (800 - s.dp).toNat - 800) (by have : n31 = 310 := rfl; omega)] at h1
    have h4 : T8 * 1 ≤ T8 * 10 ^ (n31 + (800 - s.dp).toNat - 800) := Nat.mul_le_mul_left _ (Nat.pow_pos (by decide))
    omega
theorem ten31 : 10 ^ n31 * 2 ^ 27 < 2 ^ n1060 := by decide +kernel
/-- how far the shifts to the right may go -/
theorem right_far {X Y a : Nat} (hY : 0 < Y) (hm : X < 10 ^ n31 * Y) (ha : Y * 2 ^ a ≤ X * 2 ^ 27) : a < 1060 := by
  have h1 : Y * 2 ^ a < Y * 2 ^ n1060 := by
    have h2 : X * 2 ^ 27 < 10 ^ n31 * Y * 2 ^ 27 := Nat.mul_lt_mul_of_pos_right hm (by decide)
    have h3 : 10 ^ n31 * Y * 2 ^ 27 = Y * (10 ^ n31 * 2 ^ 27) := by rw [Nat.mul_comm (10 ^ n31), Nat.mul_assoc]
    have h4 := Nat.mul_lt_mul_of_pos_left ten31 hY
    exact Nat.lt_of_le_of_lt ha (Nat.lt_trans h2 (by rw [h3]; exact h4))
  exact two_lt (b := n1060) (Nat.lt_of_mul_lt_mul_left h1)
end Go.Proofs.YtjlaoeigfokkiaaGreatDoor.dcm
namespace Go.Proofs.YtjlaoeigfokkiaaGreatDoor.fto
open Go.ChangeShapes Go.WideShapes Go.ChangeAt Go.RowKit
open mem Go.Sort
open ints (hide unhide)
set_option linter.unusedVariables false
def itB (x : Int) : ByteArray := ⟨(Lib.itoa x).toArray⟩
def rpB (n : Nat) : ByteArray := ⟨(Lib.repeatL [48] n).toArray⟩
def expB (D : ByteArray) (x : Int) : ByteArray := (if 1 < D.size then D.extract 0 1 ++ (⟨#[46]⟩ ++ D.extract 1 D.size) else D.extract 0 1) ++ ⟨#[101]⟩ ++ itB x
/-- what layOut writes -/
def layB (D : ByteArray) (p : Int) : ByteArray :=
  if p < -5 ∨ 21 < p then expB D (p - 1) else if p ≤ 0 then ⟨#[48, 46]⟩ ++ rpB (-p).toNat ++ D else if (D.size : Int) ≤ p then D ++ rpB (p.toNat - D.size) ++ ⟨#[46, 48]⟩ else D.extract 0 p.toNat ++ ⟨#[46]⟩ ++ D.extract p.toNat D.size
theorem itB_size (x : Int) (h0 : -9223372036854775808 ≤ x) (h1 : x ≤ 9223372036854775807) : (itB x).size ≤ 21 := Lib.itoa_length_le x h0 h1
theorem rpB_size (n : Nat) : (rpB n).size = n := by
  show (Lib.repeatL [48] n).toArray.size = n
  rw [List.size_toArray, Lib.repeatL_length]
  simp
set_option maxRecDepth 100000 in
theorem fi_ok (x : Int) (h0 : -9223372036854775808 ≤ x) (h1 : x ≤ 9223372036854775807) (w : World) (hF : Fx w) : Calls Tryz.prog 35 #[.int .i64 x, .int .i64 10] w fun e w' => e = .returned (.string (itB x)) ∧ Below w.heap.size w w' := by
  have IT := hide (Tryz.internal_strconv_FormatInt_10 x h0 h1 w (hF.fw.tab w (Below.refl _ _)))
  obtain ⟨S, hS⟩ : ∃ S : ByteArray, S = ⟨(Lib.itoa x).toArray⟩ := ⟨_, rfl⟩
  have HS := hide (show itB x = S by rw [hS]; rfl)
  rw [← hS] at IT
  clear hS
  go_enter Tryz.func35, Tryz.ntmps35
  go_wp2_with fail
  refine (unhide IT).mono ?_
  rintro e w1 ⟨rfl, kk, os, rfl⟩
  have b1 : Below w.heap.size w (Go.Sort.grow (w.drewN kk) os) := Lib.below_grow _ _ (Nat.le_refl _) _ _
  generalize Go.Sort.grow (w.drewN kk) os = W at *
  go_wp2
  go_ret
  rw [unhide HS]
  exact ⟨rfl, b1⟩
set_option maxRecDepth 100000 in
theorem whole_ok (x : Int) (h0 : -9223372036854775808 ≤ x) (h1 : x ≤ 9223372036854775807) (w : World) (hF : Fx w) : Calls Tryz.prog 17 #[.int .i64 x] w fun e w' => e = .returned (.string (itB x)) ∧ Below w.heap.size w w' := by
  have IT := hide (fi_ok x h0 h1 w hF)
  generalize itB x = S at *
  go_enter Tryz.func17, Tryz.ntmps17
  go_wp2_with fail
  refine (unhide IT).mono ?_
  rintro e w1 ⟨rfl, b1⟩
  go_wp2
  go_ret
  exact ⟨rfl, b1⟩
theorem sz_ext (D : ByteArray) (i j : Nat) : (D.extract i j).size ≤ D.size := by
  rw [ByteArray.size_extract]; omega
set_option maxRecDepth 100000 in
theorem exp_ok (D : ByteArray) (x : Int) (w : World) (hF : Fx w) (h1 : 1 ≤ D.size) (hD : D.size ≤ 1000) (x0 : -10000 ≤ x) (x1 : x ≤ 10000) : Calls Tryz.prog 53 #[.string D, .int .i64 x] w fun e w' => e = .returned (.string (expB D x)) ∧ Below w.heap.size w w' := by
  have WT := hide (whole_ok x (by omega) (by omega) w hF)
  have hl := itB_size x (by omega) (by omega)
  have e1 := sz_ext D 0 1
  have e2 := sz_ext D 1 D.size
  have HE := hide (show expB D x = (if 1 < D.size then D.extract 0 1 ++ (⟨#[46]⟩ ++ D.extract 1 D.size) else D.extract 0 1) ++ ⟨#[101]⟩ ++ itB x from rfl)
  generalize itB x = S at *
  by_cases h2 : 1 < D.size
  · have i1 : (1 : Int) < (D.size : Int) := by omega
    go_enter Tryz.func53, Tryz.ntmps53
    go_wp2_with fail
    refine (unhide WT).mono ?_
    rintro e w1 ⟨rfl, b1⟩
    go_wp2
    go_ret
    rw [unhide HE, if_pos h2]
    exact ⟨rfl, b1⟩
  · have i1 : ¬ (1 : Int) < (D.size : Int) := by omega
    go_enter Tryz.func53, Tryz.ntmps53
    go_wp2_with fail
    refine (unhide WT).mono ?_
    rintro e w1 ⟨rfl, b1⟩
    go_wp2
    go_ret
    rw [unhide HE, if_neg h2]
    exact ⟨rfl, b1⟩
set_option maxRecDepth 100000 in
theorem lay_ok (D : ByteArray) (p : Int) (w : World) (hF : Fx w) (h1 : 1 ≤ D.size) (hD : D.size ≤ 1000) (p0 : -5000 ≤ p) (p1 : p ≤ 5000) : Calls Tryz.prog 29 #[.string D, .int .i64 p] w fun e w' => e = .returned (.string (layB D p)) ∧ Below w.heap.size w w' := by
  by_cases c1 : p < -5 ∨ 21 < p
  · have EX := hide (exp_ok D (p - 1) w hF h1 hD (by omega) (by omega))
    have HE := hide (show layB D p = expB D (p - 1) by unfold layB; rw [if_pos c1])
    generalize expB D (p - 1) = S at *
    by_cases c2 : p < -5
    · clear c1
      go_enter Tryz.func29, Tryz.ntmps29
      go_wp2_with fail
      refine (unhide EX).mono ?_
      rintro e w1 ⟨rfl, b1⟩
      go_wp2
      go_ret
      rw [unhide HE]
      exact ⟨rfl, b1⟩
    · have c3 : 21 < p := by omega
      clear c1
      go_enter Tryz.func29, Tryz.ntmps29
      go_wp2_with fail
      refine (unhide EX).mono ?_
      rintro e w1 ⟨rfl, b1⟩
      go_wp2
      go_ret
      rw [unhide HE]
      exact ⟨rfl, b1⟩
  · have c2 : ¬ p < -5 := fun h => c1 (.inl h)
    have c3 : ¬ 21 < p := fun h => c1 (.inr h)
    by_cases c4 : p ≤ 0
    · obtain ⟨n, hn⟩ : ∃ n : Nat, -p = n := ⟨(-p).toNat, by omega⟩
      have RP := hide (Tryz.strings_Repeat ⟨#[48]⟩ n w (by omega) (by show 1 * n ≤ _; omega))
      have HE := hide (show layB D p = ⟨#[48, 46]⟩ ++ rpB n ++ D by unfold layB; rw [if_neg c1, if_pos c4, hn, Int.toNat_natCast])
      have hl : (rpB n).size ≤ 10 := by rw [rpB_size]; omega
      have er : (⟨(Lib.repeatL (⟨#[48]⟩ : ByteArray).data.toList n).toArray⟩ : ByteArray) = rpB n := rfl
      rw [er] at RP
      generalize rpB n = S at *
      clear c1 er
      go_enter Tryz.func29, Tryz.ntmps29
      go_wp2_with fail
      refine (unhide RP).mono ?_
      rintro e w1 ⟨rfl, b1⟩
      go_wp2
      go_ret
      rw [unhide HE]
      exact ⟨rfl, b1⟩
    · by_cases c5 : (D.size : Int) ≤ p
      · obtain ⟨n, hn⟩ : ∃ n : Nat, p - (D.size : Int) = n := ⟨(p - D.size).toNat, by omega⟩
        have RP := hide (Tryz.strings_Repeat ⟨#[48]⟩ n w (by omega) (by show 1 * n ≤ _; omega))
        have HE := hide (show layB D p = D ++ rpB n ++ ⟨#[46, 48]⟩ by unfold layB; rw [if_neg c1, if_neg c4, if_pos c5, show p.toNat - D.size = n by omega])
        have hl : (rpB n).size ≤ 30 := by rw [rpB_size]; omega
        have er : (⟨(Lib.repeatL (⟨#[48]⟩ : ByteArray).data.toList n).toArray⟩ : ByteArray) = rpB n := rfl
        rw [er] at RP
        generalize rpB n = S at *
        clear c1 er
        go_enter Tryz.func29, Tryz.ntmps29
        go_wp2_with fail
        refine (unhide RP).mono ?_
        rintro e w1 ⟨rfl, b1⟩
        go_wp2
        go_ret
        rw [unhide HE]
        exact ⟨rfl, b1⟩
      · obtain ⟨n, rfl⟩ : ∃ n : Nat, p = n := ⟨p.toNat, by omega⟩
        have HE := hide (show layB D (n : Int) = D.extract 0 n ++ ⟨#[46]⟩ ++ D.extract n D.size by unfold layB; rw [if_neg c1, if_neg c4, if_neg c5, Int.toNat_natCast])
        have e1 := sz_ext D 0 n
        have e2 := sz_ext D n D.size
        have hn : n < D.size := by omega
        clear c1
        go_enter Tryz.func29, Tryz.ntmps29
        go_wp2_with fail
        go_region
        all_goals go_wp2
        all_goals go_ret
        all_goals rw [unhide HE]
        all_goals exact ⟨rfl, (Below.refl _ _).drew⟩
end Go.Proofs.YtjlaoeigfokkiaaGreatDoor.fto
namespace Go.Proofs.YtjlaoeigfokkiaaGreatDoor.mem
set_option linter.unusedVariables false

def sv (ng : Bool) (v : Nat) : Int := if ng then -(v : Int) else (v : Int)
theorem dec_fin (ng : Bool) (r : Nat) (h : r < 9218868437227405312) : FloatKind.f64.decode (Ieee.double.word ng r) = .number ng (mantR r) ((exR r : Int) - 1074) := by
  have hs : Ieee.double.signWeight = 9223372036854775808 := by rfl
  have hb : Ieee.double.binade = b52 := by rfl
  have hi : Ieee.double.infRung = 9218868437227405312 := by rfl
  have hl : Ieee.double.leastPlace = -1074 := by rfl
  have e1 : Ieee.double.word ng r / 9223372036854775808 % 2 = ng.toNat ∧ Ieee.double.word ng r % 9223372036854775808 = r := by
    unfold Ieee.Format.word
    rw [hs]
    cases ng
    · simp; omega
    · simp; omega
  show Ieee.double.read _ = _
  unfold Ieee.Format.read
  simp only [hs, hb, hi, hl, e1.1, e1.2]
  have e2 : (ng.toNat == 1) = ng := by cases ng <;> rfl
  rw [e2]
  unfold mantR exR
  by_cases h0 : r < b52
  · rw [if_pos h0, if_pos h0]
    have : r / b52 = 0 := Nat.div_eq_of_lt h0
    rw [this]; rfl
  · rw [if_neg h0, if_neg h0, if_pos h]
    have : 1 ≤ r / b52 := Nat.div_pos (by omega) (by decide)
    congr 1
theorem dec_inf (ng : Bool) : FloatKind.f64.decode (Ieee.double.word ng 9218868437227405312) = .infinity ng := by
  have hs : Ieee.double.signWeight = 9223372036854775808 := by rfl
  have hb : Ieee.double.binade = b52 := by rfl
  have hi : Ieee.double.infRung = 9218868437227405312 := by rfl
  have e1 : Ieee.double.word ng 9218868437227405312 / 9223372036854775808 % 2 = ng.toNat ∧ Ieee.double.word ng 9218868437227405312 % 9223372036854775808 = 9218868437227405312 := by
    unfold Ieee.Format.word
    rw [hs]
    cases ng <;> simp
  show Ieee.double.read _ = _
  unfold Ieee.Format.read
  simp only [hs, hb, hi, e1.1, e1.2]
  have e2 : (ng.toNat == 1) = ng := by cases ng <;> rfl
  rw [e2, if_neg (by unfold b52; omega), if_neg (by omega)]
  simp only [if_true]
theorem dec_nan (ng : Bool) (r : Nat) (h : 9218868437227405312 < r) (h2 : r < 9223372036854775808) : ∃ f, FloatKind.f64.decode (Ieee.double.word ng r) = .nan ng f := by
  have hs : Ieee.double.signWeight = 9223372036854775808 := by rfl
  have hb : Ieee.double.binade = b52 := by rfl
  have hi : Ieee.double.infRung = 9218868437227405312 := by rfl
  have e1 : Ieee.double.word ng r / 9223372036854775808 % 2 = ng.toNat ∧ Ieee.double.word ng r % 9223372036854775808 = r := by
    unfold Ieee.Format.word
    rw [hs]
    cases ng
    · simp; omega
    · simp; omega
  refine ⟨r - 9218868437227405312, ?_⟩
  show Ieee.double.read _ = _
  unfold Ieee.Format.read
  simp only [hs, hb, hi, e1.1, e1.2]
  have e2 : (ng.toNat == 1) = ng := by cases ng <;> rfl
  rw [e2, if_neg (by unfold b52; omega), if_neg (by omega), if_neg (by omega)]
theorem word_of (x : Nat) (h : x < 18446744073709551616) : Ieee.double.word (decide (9223372036854775808 ≤ x)) (x % 9223372036854775808) = x := by
  have hs : Ieee.double.signWeight = 9223372036854775808 := by rfl
  unfold Ieee.Format.word
  rw [hs]
  by_cases hx : 9223372036854775808 ≤ x
  · simp [hx]; omega
  · simp [hx]; omega
theorem signed_eq (ng : Bool) (m u : Nat) : Ieee.signed ng m u = sv ng (m * 2 ^ u) := by
  unfold Ieee.signed sv
  rw [Nat.shiftLeft_eq]
theorem sv_mul (ng : Bool) (v k : Nat) : sv ng (v * k) = sv ng v * (k : Int) := by
  unfold sv
  cases ng
  · simp
  · simp only [if_true]; rw [Int.natCast_mul, Int.neg_mul]
theorem compare_mul (a b : Int) (k : Nat) (hk : 0 < k) : compare (a * (k : Int)) (b * (k : Int)) = compare a b := by
  have hk' : (0 : Int) < (k : Int) := by omega
  rcases Int.lt_trichotomy a b with h | h | h
  · rw [Int.compare_eq_lt.2 h, Int.compare_eq_lt.2 (Int.mul_lt_mul_of_pos_right h hk')]
  · subst h; rw [Int.compare_eq_eq.2 rfl, Int.compare_eq_eq.2 rfl]
  · rw [Int.compare_eq_gt.2 h, Int.compare_eq_gt.2 (Int.mul_lt_mul_of_pos_right h hk')]
/-- Two finite numbers by their values in units of the least float. -/
theorem order_fin (s t : Bool) (m n i j : Nat) : (Ieee.Datum.number s m ((i : Int) - 1074)).order (.number t n ((j : Int) - 1074)) = some (compare (sv s (m * 2 ^ i)) (sv t (n * 2 ^ j))) := by
  unfold Ieee.Datum.order
  simp only [signed_eq, Option.some.injEq]
  have e1 : ((i : Int) - 1074 - min ((i : Int) - 1074) ((j : Int) - 1074)).toNat = i - min i j := by omega
  have e2 : ((j : Int) - 1074 - min ((i : Int) - 1074) ((j : Int) - 1074)).toNat = j - min i j := by omega
  rw [e1, e2, ← compare_mul _ _ (2 ^ min i j) (Nat.two_pow_pos _), ← sv_mul, ← sv_mul, Nat.mul_assoc, Nat.mul_assoc, ← Nat.pow_add, ← Nat.pow_add,
    show i - min i j + min i j = i by omega, show j - min i j + min i j = j by omega]
theorem order_word (s t : Bool) (a b : Nat) (ha : a < 9218868437227405312) (hb : b < 9218868437227405312) : FloatKind.f64.format.order (Ieee.double.word s a) (Ieee.double.word t b) = some (compare (sv s (vR a)) (sv t (vR b))) := by
  show (FloatKind.f64.decode _).order (FloatKind.f64.decode _) = _
  rw [dec_fin s a ha, dec_fin t b hb, order_fin]
  rfl
end Go.Proofs.YtjlaoeigfokkiaaGreatDoor.mem
namespace Go.Proofs.YtjlaoeigfokkiaaGreatDoor.fto
open Go.ChangeShapes Go.WideShapes Go.ChangeAt Go.RowKit
open mem Go.Sort
open ints (hide unhide)
set_option linter.unusedVariables false
set_option linter.unusedSimpArgs false
/-- no number, or one without bound -/
def badF (x : Nat) : Bool := decide (9218868437227405312 ≤ x % 9223372036854775808)
def nanB (x : Nat) : Bool := decide (9218868437227405312 < x % 9223372036854775808)
theorem order_self (x : Nat) (h : x < 18446744073709551616) : (FloatKind.f64.format.order x x != some Ordering.eq) = nanB x := by
  have hw := word_of x h
  obtain ⟨r, hr⟩ : ∃ r, r = x % 9223372036854775808 := ⟨_, rfl⟩
  obtain ⟨ng, hng⟩ : ∃ ng, ng = decide (9223372036854775808 ≤ x) := ⟨_, rfl⟩
  have hrl : r < 9223372036854775808 := by omega
  unfold nanB
  rw [← hr]
  rw [← hr, ← hng] at hw
  clear hr hng
  rw [← hw]
  show ((FloatKind.f64.decode _).order (FloatKind.f64.decode _) != some Ordering.eq) = _
  rcases Nat.lt_trichotomy r 9218868437227405312 with h1 | h1 | h1
  · rw [dec_fin ng r h1, order_fin, Int.compare_eq_eq.2 rfl, decide_eq_false (by omega)]; rfl
  · subst h1
    rw [dec_inf, decide_eq_false (by omega)]
    cases ng <;> rfl
  · obtain ⟨f, hf⟩ := dec_nan ng r h1 hrl
    rw [hf, decide_eq_true h1]; rfl
theorem gt_max (r : Nat) (h : r ≤ 9218868437227405312) : (FloatKind.f64.format.order r 9218868437227405311 == some Ordering.gt) = decide (9218868437227405312 ≤ r) := by
  have e1 : r = Ieee.double.word false r := rfl
  by_cases hr : r = 9218868437227405312
  · subst hr
    rfl
  · rw [decide_eq_false (by omega)]
    have := order_word false false r 9218868437227405311 (by omega) (by omega)
    have e2 : FloatKind.f64.format.order r 9218868437227405311 = some (compare (sv false (vR r)) (sv false (vR 9218868437227405311))) := this
    rw [e2]
    have hle : vR r ≤ vR 9218868437227405311 := mem.vR_mono_le (by omega)
    have : compare (sv false (vR r)) (sv false (vR 9218868437227405311)) ≠ Ordering.gt := by
      intro hc
      rw [Int.compare_eq_gt] at hc
      unfold sv at hc
      simp at hc
      omega
    cases hc : compare (sv false (vR r)) (sv false (vR 9218868437227405311)) with
    | gt => exact absurd hc this
    | lt => rfl
    | eq => rfl
theorem andNotSign (b : Nat) (h : b < 18446744073709551616) : bits .andNot .u64 (b : Int) 9223372036854775808 = ((b % 9223372036854775808 : Nat) : Int) := by
  have := u64_andNot_nat b 9223372036854775808 (by omega) (by omega)
  rw [show 18446744073709551615 - 9223372036854775808 = 9223372036854775807 from rfl, nat_mask63] at this
  exact this
theorem run_tobits (x : Nat) (w : World) : (callFunc 12 #[.float .f64 x]).run Tryz.prog w = .ok (.value (.int .u64 x)) w := by
  rw [run_callFunc_extern (e := Extern.MathFloatBits.float64bits) Tryz.func12 (by kernel_rfl) (by kernel_rfl) (by kernel_rfl) (by kernel_rfl)]
  rfl
theorem run_frombits (x : Int) (w : World) : (callFunc 52 #[.int .u64 x]).run Tryz.prog w = .ok (.value (.float .f64 x.toNat)) w := by
  rw [run_callFunc_extern (e := Extern.MathFloatBits.float64frombits) Tryz.func52 (by kernel_rfl) (by kernel_rfl) (by kernel_rfl) (by kernel_rfl)]
  rfl
theorem abs_ok (x : Nat) (w : World) (h : x < 18446744073709551616) : Calls Tryz.prog 28 #[.float .f64 x] w fun e w' => e = .returned (.float .f64 (x % 9223372036854775808)) ∧ w = w' := by
  have T1 := run_tobits x w
  have e2 := andNotSign x h
  have T2 := run_frombits ((x % 9223372036854775808 : Nat) : Int) w
  rw [Int.toNat_natCast] at T2
  generalize x % 9223372036854775808 = r at *
  go_enter Tryz.func28, Tryz.ntmps28
  go_wp2
  go_ret
  exact ⟨rfl, rfl⟩
theorem isInf_ok (x : Nat) (w : World) (h : x < 18446744073709551616) (hn : nanB x = false) : Calls Tryz.prog 21 #[.float .f64 x, .int .i64 0] w fun e w' => e = .returned (.bool (badF x)) ∧ w = w' := by
  have A := hide (fun W => abs_ok x W h)
  have hg := gt_max (x % 9223372036854775808) (by unfold nanB at hn; simpa using hn)
  have hB := hide (show badF x = decide (9218868437227405312 ≤ x % 9223372036854775808) from rfl)
  clear hn h
  generalize x % 9223372036854775808 = r at *
  rw [← unhide hB] at hg
  clear hB
  generalize badF x = B at *
  go_enter Tryz.func21, Tryz.ntmps21
  go_wp2_with fail
  refine (unhide A _).mono ?_
  rintro e w1 ⟨rfl, rfl⟩
  clear A
  go_wp2
  go_ret
  exact ⟨by first | rfl | (rw [← hg]; rfl), rfl⟩
end Go.Proofs.YtjlaoeigfokkiaaGreatDoor.fto
namespace Go.Proofs.YtjlaoeigfokkiaaGreatDoor.fto
open Go.ChangeShapes Go.WideShapes Go.ChangeAt Go.RowKit
open mem Go.Sort
open ints (hide unhide)
set_option linter.unusedVariables false
set_option linter.unusedSimpArgs false
theorem isNaN_any (x : Nat) (w : World) (h : x < 18446744073709551616) : Calls Tryz.prog 25 #[.float .f64 x] w fun e w' => e = .returned (.bool (nanB x)) ∧ w' = w := by
  have ho := order_self x h
  generalize nanB x = N at *
  go_enter Tryz.func25, Tryz.ntmps25
  go_wp2
  go_ret
  exact ⟨by first | rfl | (rw [← ho]; rfl), rfl⟩

theorem sgn64 (x : Nat) (h : x < 18446744073709551616) : decide (wrap64 (x : Int) < 0) = decide (9223372036854775808 ≤ x) := by
  have e : wrap64 (x : Int) = ((x : Int) + 9223372036854775808) % 18446744073709551616 - 9223372036854775808 := by simp [wrap64]
  rw [e]
  by_cases hx : 9223372036854775808 ≤ x
  · rw [decide_eq_true hx]; exact decide_eq_true (by omega)
  · rw [decide_eq_false hx]; exact decide_eq_false (by omega)
set_option maxRecDepth 100000 in
theorem sign_ok (x : Nat) (w : World) (h : x < 18446744073709551616) : Calls Tryz.prog 26 #[.float .f64 x] w fun e w' => e = .returned (.bool (decide (9223372036854775808 ≤ x))) ∧ w' = w := by
  have T1 := run_tobits x w
  rw [← sgn64 x h]
  clear h
  go_enter Tryz.func26, Tryz.ntmps26
  go_wp2
  go_ret
  exact ⟨rfl, rfl⟩
theorem eq_nought (x : Nat) (h : x < 18446744073709551616) (hb : badF x = false) : (FloatKind.f64.format.order x 0 == some Ordering.eq) = decide (x % 9223372036854775808 = 0) := by
  have hw := word_of x h
  have hr : x % 9223372036854775808 < 9218868437227405312 := by unfold badF at hb; simpa using hb
  generalize decide (9223372036854775808 ≤ x) = ng at hw
  generalize x % 9223372036854775808 = r at *
  rw [← hw]
  have e := order_word ng false r 0 hr (by decide)
  rw [show Ieee.double.word false 0 = 0 from rfl] at e
  rw [e]
  have hv : vR 0 = 0 := rfl
  by_cases h0 : r = 0
  · subst h0
    rw [hv]
    cases ng <;> rfl
  · have hp : 0 < vR r := by
      have hm : 0 < mantR r := by unfold mantR; split <;> first | omega | (unfold b52; omega)
      unfold vR
      exact Nat.mul_pos hm (Nat.two_pow_pos _)
    rw [decide_eq_false h0, hv]
    cases ng
    · have : compare (sv false (vR r)) (sv false 0) = Ordering.gt := by
        rw [Int.compare_eq_gt]; unfold sv; simp; omega
      rw [this]; rfl
    · have : compare (sv true (vR r)) (sv false 0) = Ordering.lt := by
        rw [Int.compare_eq_lt]; unfold sv; simp; omega
      rw [this]; rfl
def sgB (x : Nat) : ByteArray := if 9223372036854775808 ≤ x then ⟨#[45]⟩ else ⟨#[]⟩
theorem nan_bad {x : Nat} (hb : badF x = false) : nanB x = false := by
  unfold badF at hb
  unfold nanB
  have := of_decide_eq_false hb
  exact decide_eq_false (by omega)
/-- the text of a nought -/
theorem ftext_nought (x : Nat) (w : World) (h : x < 18446744073709551616) (h0 : x % 9223372036854775808 = 0) : Calls Tryz.prog 11 #[.float .f64 x] w fun e w' => e = .returned (.string (sgB x ++ ⟨#[48, 46, 48]⟩)) ∧ Below w.heap.size w w' := by
  have hb : badF x = false := by unfold badF; rw [h0]; rfl
  have hn := nan_bad hb
  have NA := hide (isNaN_any x w h)
  have IN := hide (isInf_ok x w h hn)
  have SG := hide (sign_ok x w h)
  have EQ := eq_nought x h hb
  rw [hn] at NA
  rw [hb] at IN
  rw [decide_eq_true h0] at EQ
  have hs : (sgB x).size ≤ 1 := by unfold sgB; split <;> decide
  have HG := hide (show sgB x = if 9223372036854775808 ≤ x then ⟨#[45]⟩ else ⟨#[]⟩ from rfl)
  by_cases hx : 9223372036854775808 ≤ x
  · rw [decide_eq_true hx] at SG
    rw [unhide HG, if_pos hx]
    clear hx hb hn h h0 HG hs
    go_enter Tryz.func11, Tryz.ntmps11
    go_wp2_with fail
    refine (unhide NA).mono ?_
    rintro e w1 ⟨rfl, hw⟩
    subst hw
    go_wp2_with fail
    refine (unhide IN).mono ?_
    rintro e w1 ⟨rfl, hw⟩
    subst hw
    go_wp2_with fail
    refine (unhide SG).mono ?_
    rintro e w1 ⟨rfl, hw⟩
    subst hw
    go_wp2
    go_ret
    exact ⟨rfl, Below.refl _ _⟩
  · rw [decide_eq_false hx] at SG
    rw [unhide HG, if_neg hx]
    clear hx hb hn h h0 HG hs
    go_enter Tryz.func11, Tryz.ntmps11
    go_wp2_with fail
    refine (unhide NA).mono ?_
    rintro e w1 ⟨rfl, hw⟩
    subst hw
    go_wp2_with fail
    refine (unhide IN).mono ?_
    rintro e w1 ⟨rfl, hw⟩
    subst hw
    go_wp2_with fail
    refine (unhide SG).mono ?_
    rintro e w1 ⟨rfl, hw⟩
    subst hw
    go_wp2
    go_ret
    exact ⟨rfl, Below.refl _ _⟩
end Go.Proofs.YtjlaoeigfokkiaaGreatDoor.fto
