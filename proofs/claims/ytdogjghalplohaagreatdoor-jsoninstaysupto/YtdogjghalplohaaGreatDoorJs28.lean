import Derived.Test.YtdogjghalplohaaGreatDoorJs27
import Derived.Test.YtdogjghalplohaaGreatDoorJs22
namespace Go.Proofs.YtdogjghalplohaaGreatDoor.dcm
open Go.ChangeShapes Go.WideShapes Go.ChangeAt Go.RowKit
open mem
open ints (hide unhide)
set_option linter.unusedVariables false
set_option linter.unusedSimpArgs false
theorem RSh.few60 {s s':Dcs} {k:Nat} (h:RSh s s' k) (hs:Std s) (hk:k ≤ 60):s.dp - 20 ≤ s'.dp ∧ s'.dp ≤ s.dp:=by
 obtain ⟨j,e1,e2,e3⟩:=h.ex
 have:j ≤ 20:=by
  rcases Nat.lt_or_ge 20 j with g | g
  ·exfalso
   have a1:dvN s' 800 < T8:=dvN_lt8 h.std.ok
   have a2:T79 * 10 ^ 21 ≤ dvN s 800 * 10 ^ j:=Nat.mul_le_mul hs.lead (Nat.pow_le_pow_right (by decide) g)
   have a3:2 ^ k ≤ 2 ^ 60:=Nat.pow_le_pow_right (by decide) hk
   have a4:dvN s 800 * 10 ^ j < T8 * 2 ^ k:=by
    rw [e2] at a1
    exact (Nat.div_lt_iff_lt_mul (Nat.two_pow_pos _)).1 a1
   have a5:T8 * 2 ^ k ≤ T8 * 2 ^ 60:=Nat.mul_le_mul_left _ a3
   rw [T8_eq] at a4 a5
   have c0:0 < T79:=T79_pos
   generalize T79 = C at *
   omega
  ·exact g
 omega
set_option maxRecDepth 100000 in
theorem shiftL_ok (b k:Nat) (s:Dcs) (w:World) (h:Dec w b s) (hs:Std s) (hk1:1 ≤ k) (hk:k ≤ 60) (hp:-100000 ≤ s.dp ∧ s.dp ≤ 100000) (hc:LC w b) :
  Calls Tryz.prog 208 #[.pointer (some ⟨b,0,none⟩),.int .i64 k] w fun e w' => e = .returned (.tuple #[]) ∧ (∃ s',LSh s s' k ∧ Dec w' b s') ∧ Below b w w' ∧ w.heap.size ≤ w'.heap.size:=by
 have C:=hide (lshift_ok b k s w h hs hk1 hk hp hc)
 have c0:=h.cnd
 have hl:=h.lt
 have hn0:=hs.pos
 obtain ⟨n,hn⟩:∃ n:Nat,n = s.nd:=⟨_,rfl⟩
 rw [← hn] at c0 hn0
 have e0:((n:Int) == 0) = false:=by rw [beq_eq_false_iff_ne];omega
 have k0:(0:Int) < (k:Int):=by omega
 have k6:(k:Int) ≤ 60:=by omega
 have kc:IntKind.u64.wrap (k:Int) = (k:Int):=by rw [IntKind.wrap_u64];omega
 clear h hs hn hc hp
 go_enter Tryz.func208,Tryz.ntmps208
 go_wp2_with fail
 go_loopw [1] (fun kv wr => kv = .int .i64 (k:Int) ∧ wr = w) (fun _ _ => 0)
 case atStart => exact ⟨rfl,rfl⟩
 case round =>
  obtain ⟨rfl,hwr⟩:=hrel
  subst wr
  go_wp2_with fail
  refine (unhide C).mono ?_
  rintro e w1 ⟨rfl,h1,h2,h3⟩
  have H1:=hide h1
  have H2:=hide h2
  have H3:=hide h3
  clear h1 h2 h3
  go_wp2
  go_end0
  exact ⟨rfl,unhide H1,unhide H2,unhide H3⟩
set_option maxRecDepth 100000 in
theorem shiftR_ok (b k:Nat) (s:Dcs) (w:World) (h:Dec w b s) (hs:Std s) (hk1:1 ≤ k) (hk:k ≤ 60) (hp:-100000 ≤ s.dp ∧ s.dp ≤ 100000) :
  Calls Tryz.prog 208 #[.pointer (some ⟨b,0,none⟩),.int .i64 (-(k:Int))] w fun e w' => e = .returned (.tuple #[]) ∧ (∃ s',RSh s s' k ∧ Dec w' b s') ∧ Below b w w' ∧ w.heap.size ≤ w'.heap.size:=by
 have C:=hide (rshift_ok b k s w h hs hk1 hk hp)
 have c0:=h.cnd
 have hl:=h.lt
 have hn0:=hs.pos
 obtain ⟨n,hn⟩:∃ n:Nat,n = s.nd:=⟨_,rfl⟩
 rw [← hn] at c0 hn0
 have e0:((n:Int) == 0) = false:=by rw [beq_eq_false_iff_ne];omega
 have k0:¬ (0:Int) < -(k:Int):=by omega
 have k1:-(k:Int) < 0:=by omega
 have k6:(-60:Int) ≤ -(k:Int):=by omega
 have kn:IntKind.i64.wrap (- -(k:Int)) = (k:Int):=by rw [IntKind.wrap_i64];omega
 have kc:IntKind.u64.wrap (k:Int) = (k:Int):=by rw [IntKind.wrap_u64];omega
 clear h hs hn hp
 go_enter Tryz.func208,Tryz.ntmps208
 go_wp2_with fail
 go_loopw [1] (fun kv wr => kv = .int .i64 (-(k:Int)) ∧ wr = w) (fun _ _ => 0)
 case atStart => exact ⟨rfl,rfl⟩
 case round =>
  obtain ⟨rfl,hwr⟩:=hrel
  subst wr
  go_wp2_with fail
  refine (unhide C).mono ?_
  rintro e w1 ⟨rfl,h1,h2,h3⟩
  have H1:=hide h1
  have H2:=hide h2
  have H3:=hide h3
  clear h1 h2 h3
  go_wp2
  go_end0
  exact ⟨rfl,unhide H1,unhide H2,by rw [unhide H3];exact Nat.le_refl _⟩
set_option maxRecDepth 100000 in
theorem shiftR2_ok (b k:Nat) (s:Dcs) (w:World) (h:Dec w b s) (hs:Std s) (hk1:61 ≤ k) (hk:k ≤ 120) (hp:-90000 ≤ s.dp ∧ s.dp ≤ 90000) :
  Calls Tryz.prog 208 #[.pointer (some ⟨b,0,none⟩),.int .i64 (-(k:Int))] w fun e w' => e = .returned (.tuple #[]) ∧ (∃ s1 s',RSh s s1 60 ∧ RSh s1 s' (k - 60) ∧ Dec w' b s') ∧ Below b w w' ∧ w.heap.size ≤ w'.heap.size:=by
 have C:=hide (rshift_ok b 60 s w h hs (by omega) (by omega) (by omega))
 have c0:=h.cnd
 have hl:=h.lt
 have hn0:=hs.pos
 have HS:=hide hs
 have HP:=hide hp
 obtain ⟨n,hn⟩:∃ n:Nat,n = s.nd:=⟨_,rfl⟩
 rw [← hn] at c0 hn0
 have e0:((n:Int) == 0) = false:=by rw [beq_eq_false_iff_ne];omega
 have k0:¬ (0:Int) < -(k:Int):=by omega
 have k1:-(k:Int) < 0:=by omega
 obtain ⟨m,hm⟩:∃ m:Nat,m = k - 60:=⟨_,rfl⟩
 have kn:IntKind.i64.wrap (- -(m:Int)) = (m:Int):=by rw [IntKind.wrap_i64];omega
 have kc:IntKind.u64.wrap (m:Int) = (m:Int):=by rw [IntKind.wrap_u64];omega
 rw [← hm]
 have HM:=hide hm
 clear h hs hn hp hm
 go_enter Tryz.func208,Tryz.ntmps208
 go_wp2_with fail
 go_loopw [1] (fun kv wr => (kv = .int .i64 (-(k:Int)) ∧ wr = w) ∨ (kv = .int .i64 (-(m:Int)) ∧ (∃ s1,RSh s s1 60 ∧ Dec wr b s1) ∧ Below b w wr ∧ wr.heap.size = w.heap.size)) (fun kv _ => (- intOf kv).toNat)
 case atStart => exact Or.inl ⟨rfl,rfl⟩
 case round =>
  rcases hrel with ⟨rfl,hwr⟩ | ⟨rfl,⟨s1,hr1,hd1⟩,hb1,hz1⟩
  ·subst wr
   have k6:-(k:Int) < -60:=by omega
   have kx:IntKind.i64.wrap (-(k:Int) + 60) = -(m:Int):=by have:=unhide HM;rw [IntKind.wrap_i64];omega
   go_wp2_with fail
   refine (unhide C).mono ?_
   rintro e w1 ⟨rfl,⟨s1,hr1,hd1⟩,h2,h3⟩
   have H0:=hide hr1
   have H1:=hide hd1
   have H2:=hide h2
   have H3:=hide h3
   clear hr1 hd1 h2 h3
   go_wp2
   go_roundw
   case rel => exact Or.inr ⟨rfl,⟨s1,unhide H0,unhide H1⟩,unhide H2,unhide H3⟩
   case measure => have:=unhide HM;simp [intOf];omega
  ·have hf:=hr1.few60 (unhide HS) (by omega)
   have C2:=hide (rshift_ok b m s1 wr hd1 hr1.std (by have:=unhide HM;omega) (by have:=unhide HM;omega) (by have:=unhide HP;omega))
   have k6:(-60:Int) ≤ -(m:Int):=by have:=unhide HM;omega
   have hl1:=hd1.lt
   have H0:=hide hr1
   have H2:=hide hb1
   have H3:=hide hz1
   clear hr1 hd1 hb1 hz1 hf
   go_wp2_with fail
   refine (unhide C2).mono ?_
   rintro e w1 ⟨rfl,⟨s2,hr2,hd2⟩,h2,h3⟩
   have G0:=hide hr2
   have G1:=hide hd2
   have G2:=hide h2
   have G3:=hide h3
   clear hr2 hd2 h2 h3
   go_wp2
   go_end0
   exact ⟨rfl,⟨s1,s2,unhide H0,unhide G0,unhide G1⟩,(unhide H2).trans (unhide G2),by rw [unhide G3,unhide H3];exact Nat.le_refl _⟩
end Go.Proofs.YtdogjghalplohaaGreatDoor.dcm
namespace Go.Proofs.YtdogjghalplohaaGreatDoor.dcm
set_option linter.unusedVariables false
open mem
theorem lt_mul_iff {a b k:Nat} (hk:0 < k):a * k < b * k ↔ a < b:=⟨fun h => Nat.lt_of_mul_lt_mul_right h,fun h => Nat.mul_lt_mul_of_pos_right h hk⟩
theorem eq_mul_iff {a b k:Nat} (hk:0 < k):a * k = b * k ↔ a = b:=⟨fun h => Nat.eq_of_mul_eq_mul_right hk h,fun h => by rw [h]⟩
theorem enc_ok {P B U W K:Nat} (hB:0 < B) (hW:0 < W) (e:P * W = U * B * 2 ^ K) (hA:(U / W < b52 ∧ K = 0) ∨ (b52 ≤ U / W ∧ U / W < b53)) :
  Lo P B (K * b52 + U / W) ∧ roundR P B (K * b52 + U / W) = K * b52 + rn U W:=by
 have hU:=Nat.div_add_mod U W
 have hl:=Nat.mod_lt U hW
 unfold rn
 generalize U / W = A at *
 generalize U % W = r at *
 have hx:exR (K * b52 + A) = K:=by unfold exR b52;unfold b52 b53 at hA;omega
 have hm:mantR (K * b52 + A) = A:=by unfold mantR b52;unfold b52 b53 at hA;split <;> omega
 have hv:vR (K * b52 + A) = A * 2 ^ K:=by unfold vR;rw [hx,hm]
 have hp:(K * b52 + A) % 2 = A % 2:=by unfold b52;omega
 have hk:0 < 2 ^ K:=Nat.two_pow_pos _
 have hBK:0 < B * 2 ^ K:=Nat.mul_pos hB hk
 have e2:P * W = U * (B * 2 ^ K):=by rw [e,Nat.mul_assoc]
 have hWA:W * A + r = U:=hU
 have l1:B * (A * 2 ^ K) * W = W * A * (B * 2 ^ K):=by rw [Nat.mul_left_comm B,Nat.mul_comm W A,Nat.mul_right_comm]
 constructor
 ·unfold Lo
  rw [vR_succ,hv,hx]
  constructor
  ·rw [← le_mul_iff hW,l1,e2,le_mul_iff hBK];omega
  ·have l2:B * (A * 2 ^ K + 2 ^ K) * W = (W * A + W) * (B * 2 ^ K):=by rw [Nat.mul_add,Nat.add_mul,l1,Nat.add_mul];congr 1;rw [Nat.mul_comm]
   rw [← lt_mul_iff hW,l2,e2,lt_mul_iff hBK];omega
 ·unfold roundR
  rw [hv,hx,hp]
  have l3:B * (2 * (A * 2 ^ K) + 2 ^ K) * W = (2 * (W * A) + W) * (B * 2 ^ K):=by
   rw [Nat.mul_add,Nat.add_mul,Nat.mul_left_comm B 2,Nat.mul_assoc 2,l1,Nat.add_mul,Nat.mul_assoc 2];congr 1;rw [Nat.mul_comm]
  have l4:2 * P * W = 2 * U * (B * 2 ^ K):=by rw [Nat.mul_assoc,e2,Nat.mul_assoc]
  have c1:B * (2 * (A * 2 ^ K) + 2 ^ K) < 2 * P ↔ W < 2 * r:=by
   rw [← lt_mul_iff hW,l3,l4,lt_mul_iff hBK];omega
  have c2:2 * P = B * (2 * (A * 2 ^ K) + 2 ^ K) ↔ W = 2 * r:=by
   rw [← eq_mul_iff hW,l3,l4,eq_mul_iff hBK];omega
  simp only [c1,c2]
  by_cases g1:W < 2 * r
  ·simp [g1];omega
  ·by_cases g2:W = 2 * r
   ·by_cases g3:A % 2 = 1
    ·simp [← g2,g3];omega
    ·simp [← g2,g3]
   ·simp [g1,g2]
theorem ten_two_a:∀ q,q < 331 → 10 ^ (q + 1) ≤ 2 ^ (773 + q):=by decide +kernel
theorem ten_two_b:∀ q,q < 275 → 10 ^ (q + 1) ≤ 2 ^ (747 + q):=by decide +kernel
theorem ten_two_c:∀ q,q < 307 → 10 ^ (q + 1) ≤ 2 ^ 1022:=by decide +kernel
theorem ten_two_d:10 ^ 9 ≤ 2 ^ 30:=by decide +kernel
theorem two_lt {a b:Nat} (h:(2:Nat) ^ a < 2 ^ b):a < b:=by
 rcases Nat.lt_or_ge a b with g | g
 ·exact g
 ·exact absurd (Nat.pow_le_pow_right (by decide:0 < 2) g) (by omega)
theorem left_far {l q:Nat} (h:2 ^ l < 10 ^ (q + 1)) (hq:q ≤ 330):l + 28 ≤ 800 + q:=by
 have:=two_lt (Nat.lt_of_lt_of_le h (ten_two_a q (by omega)))
 omega
theorem left_norm {l q:Nat} (h:2 ^ l < 10 ^ (q + 1)) (hl:l ≤ 1021):l + 54 ≤ 800 + q:=by
 rcases Nat.lt_or_ge q 275 with g | g
 ·have:=two_lt (Nat.lt_of_lt_of_le h (ten_two_b q g))
  omega
 ·omega
theorem left_sub {l q:Nat} (h:2 ^ l < 10 ^ (q + 1)) (hl:1022 ≤ l):307 ≤ q:=by
 rcases Nat.lt_or_ge q 307 with g | g
 ·have:=two_lt (Nat.lt_of_lt_of_le h (ten_two_c q g))
  omega
 ·exact g
end Go.Proofs.YtdogjghalplohaaGreatDoor.dcm
namespace Go.Proofs.YtdogjghalplohaaGreatDoor.dcm
open Go.ChangeShapes Go.WideShapes Go.ChangeAt Go.RowKit
open mem
open ints (hide unhide)
set_option linter.unusedVariables false
set_option linter.unusedSimpArgs false
def n31:Nat:=310
def n1060:Nat:=1060
def jumpL (J:Nat → Act → World → Prop) (Q:Exit → Act → World → Prop):Exit → Act → World → Prop
 | .goto l,a,w => J l a w
 | e,a,w => Q e a w
theorem scope_two {P:Program} {Q:Exit → Act → World → Prop} {a:Act} {w:World} {c r0 r1:Code} (h0:findLabel c 0 = some r0) (h1:findLabel c 1 = some r1)
  (h:c.wp P (jumpL (fun l a w => if l = 0 then r0.wp P (Exit.noGoto Q) a w else if l = 1 then r1.wp P (Exit.noGoto Q) a w else False) Q) a w):(Code.scope c).wp P Q a w:=by
 intro b k cs
 have key:∀ (l:Nat) (rest:Code) a1 w1,findLabel c l = some rest → rest.wp P (Exit.noGoto Q) a1 w1 → ∃ e a' w',Q e a' w' ∧ (∀ m,(∀ k',gotoIn l (.inScope c :: k) = some k' → Steps P m (lone (b.at a1 k') cs w1)) → Arrives P m b k cs e a' w'):=by
  intro l rest a1 w1 hf hr
  have hg:gotoIn l (.inScope c :: k) = some (.code rest :: .inScope c :: k):=by simp [gotoIn,hf]
  obtain ⟨e,a2,w2,hq,harr⟩:=hr b (.inScope c :: k) cs
  cases e with
  | normal => exact ⟨.normal,a2,w2,hq,fun m hm => Steps.trans (hm _ hg) (Steps.trans harr (.one step_inScope))⟩
  | exit id => exact ⟨.exit id,a2,w2,hq,fun m hm k' hk => Steps.trans (hm _ hg) (harr k' (by simp [exitTo,hk]))⟩
  | goto l' => exact hq.elim
  | ret => exact ⟨.ret,a2,w2,hq,fun m hm => .of_steps (hm _ hg) harr⟩
  | panic ch => exact ⟨.panic ch,a2,w2,hq,fun m hm => .of_steps (hm _ hg) harr⟩
  | outgrown => exact ⟨.outgrown,a2,w2,hq,fun m hm => .of_steps (hm _ hg) harr⟩
 obtain ⟨e,a1,w1,hq,harr⟩:=h b (.inScope c :: k) cs
 cases e with
 | normal => exact ⟨.normal,a1,w1,hq,.head step_scope (Steps.trans harr (.one step_inScope))⟩
 | exit id => exact ⟨.exit id,a1,w1,hq,fun k' hk => .head step_scope (harr k' (by simp [exitTo,hk]))⟩
 | goto l =>
  have hq:(if l = 0 then r0.wp P (Exit.noGoto Q) a1 w1 else if l = 1 then r1.wp P (Exit.noGoto Q) a1 w1 else False):=hq
  by_cases e0:l = 0
  ·subst e0
   rw [if_pos rfl] at hq
   obtain ⟨e,a2,w2,hq2,hstep⟩:=key 0 r0 a1 w1 h0 hq
   exact ⟨e,a2,w2,hq2,.of_steps (.one step_scope) (hstep _ fun k' hk => harr k' hk)⟩
  ·rw [if_neg e0] at hq
   by_cases e1:l = 1
   ·subst e1
    rw [if_pos rfl] at hq
    obtain ⟨e,a2,w2,hq2,hstep⟩:=key 1 r1 a1 w1 h1 hq
    exact ⟨e,a2,w2,hq2,.of_steps (.one step_scope) (hstep _ fun k' hk => harr k' hk)⟩
   ·rw [if_neg e1] at hq
    exact hq.elim
 | ret => exact ⟨_,a1,w1,hq,.of_steps (.one step_scope) harr⟩
 | panic ch => exact ⟨_,a1,w1,hq,.of_steps (.one step_scope) harr⟩
 | outgrown => exact ⟨_,a1,w1,hq,.of_steps (.one step_scope) harr⟩
theorem rn_bd (U W:Nat):U / W ≤ rn U W ∧ rn U W ≤ U / W + 1:=by
 unfold rn
 have:=Bool.toNat_le (decide (W < 2 * (U % W)) || (decide (W = 2 * (U % W)) && decide (U / W % 2 = 1)))
 omega
theorem k74_pow:k74 = 2 ^ (1021 + 53):=by unfold k74;rw [show 52 + e22 = 1021 + 53 from rfl]
theorem end_norm {X Y a l K:Nat} (hY:0 < Y) (h1:X * 2 ^ l < Y * 2 ^ a) (h2:Y * 2 ^ a ≤ X * 2 ^ l * 2) (hK:K + l = a + 1021) :
  (∃ lo,Lo (X * k74) Y lo ∧ roundR (X * k74) Y lo = K * b52 + rn (X * 2 ^ l * 2 ^ 53) (Y * 2 ^ a)) ∧ b52 ≤ rn (X * 2 ^ l * 2 ^ 53) (Y * 2 ^ a) ∧ rn (X * 2 ^ l * 2 ^ 53) (Y * 2 ^ a) ≤ b53:=by
 have hW:0 < Y * 2 ^ a:=Nat.mul_pos hY (Nat.two_pow_pos _)
 have e53:(2:Nat) ^ 53 = b53:=rfl
 have hA:b52 ≤ X * 2 ^ l * 2 ^ 53 / (Y * 2 ^ a) ∧ X * 2 ^ l * 2 ^ 53 / (Y * 2 ^ a) < b53:=by
  rw [e53]
  generalize Y * 2 ^ a = W at *
  generalize X * 2 ^ l = U at *
  have e2:b53 = 2 * b52:=rfl
  constructor
  ·rw [Nat.le_div_iff_mul_le hW,e2,← Nat.mul_assoc,Nat.mul_comm b52]
   exact Nat.mul_le_mul_right _ h2
  ·rw [Nat.div_lt_iff_lt_mul hW,Nat.mul_comm b53]
   exact Nat.mul_lt_mul_of_pos_right h1 (by decide)
 have hb:=rn_bd (X * 2 ^ l * 2 ^ 53) (Y * 2 ^ a)
 have he:X * k74 * (Y * 2 ^ a) = X * 2 ^ l * 2 ^ 53 * Y * 2 ^ K:=by
  have q1:X * k74 * (Y * 2 ^ a) = X * Y * 2 ^ (1021 + 53 + a):=by
   rw [k74_pow,Nat.pow_add 2 (1021 + 53) a,Nat.mul_mul_mul_comm]
  have q2:X * 2 ^ l * 2 ^ 53 * Y * 2 ^ K = X * Y * 2 ^ (l + 53 + K):=by
   rw [Nat.pow_add 2 (l + 53) K,Nat.pow_add 2 l 53]
   simp only [Nat.mul_assoc,Nat.mul_left_comm,Nat.mul_comm]
  rw [q1,q2,show 1021 + 53 + a = l + 53 + K by omega]
 have:=enc_ok (K:=K) hY hW he (Or.inr hA)
 exact ⟨⟨_,this.1,this.2⟩,by omega,by omega⟩
theorem end_sub {X Y a l n:Nat} (hY:0 < Y) (h1:X * 2 ^ l < Y * 2 ^ a) (hn:1 ≤ n) (hK:l = a + n + 1021) :
  (∃ lo,Lo (X * k74) Y lo ∧ roundR (X * k74) Y lo = rn (X * 2 ^ l * 2 ^ 53) (Y * 2 ^ a * 2 ^ n)) ∧ rn (X * 2 ^ l * 2 ^ 53) (Y * 2 ^ a * 2 ^ n) ≤ b52:=by
 have hW:0 < Y * 2 ^ a * 2 ^ n:=Nat.mul_pos (Nat.mul_pos hY (Nat.two_pow_pos _)) (Nat.two_pow_pos _)
 have e53:(2:Nat) ^ 53 = b53:=rfl
 have hA:X * 2 ^ l * 2 ^ 53 / (Y * 2 ^ a * 2 ^ n) < b52:=by
  rw [Nat.div_lt_iff_lt_mul hW,e53]
  have h2:2 ^ 1 ≤ 2 ^ n:=Nat.pow_le_pow_right (by decide) hn
  generalize Y * 2 ^ a = W at *
  generalize X * 2 ^ l = U at *
  have e2:b53 = b52 * 2:=rfl
  have h3:U * b53 < W * b53:=Nat.mul_lt_mul_of_pos_right h1 (by decide)
  have h4:W * b53 ≤ b52 * (W * 2 ^ n):=by
   rw [e2,← Nat.mul_assoc,Nat.mul_comm W b52,Nat.mul_assoc]
   exact Nat.mul_le_mul_left _ (Nat.mul_le_mul_left _ h2)
  omega
 have hb:=rn_bd (X * 2 ^ l * 2 ^ 53) (Y * 2 ^ a * 2 ^ n)
 have he:X * k74 * (Y * 2 ^ a * 2 ^ n) = X * 2 ^ l * 2 ^ 53 * Y * 2 ^ 0:=by
  have q1:X * k74 * (Y * 2 ^ a * 2 ^ n) = X * Y * 2 ^ (1021 + 53 + (a + n)):=by
   rw [k74_pow,Nat.pow_add 2 (1021 + 53) (a + n),Nat.pow_add 2 a n,Nat.mul_assoc Y,Nat.mul_mul_mul_comm]
  have q2:X * 2 ^ l * 2 ^ 53 * Y * 2 ^ 0 = X * Y * 2 ^ (l + 53):=by
   rw [Nat.pow_add 2 l 53,Nat.pow_zero,Nat.mul_one]
   simp only [Nat.mul_assoc,Nat.mul_left_comm,Nat.mul_comm]
  rw [q1,q2,show 1021 + 53 + (a + n) = l + 53 by omega]
 have:=enc_ok (K:=0) hY hW he (Or.inl ⟨hA,rfl⟩)
 rw [Nat.zero_mul,Nat.zero_add,Nat.zero_add] at this
 exact ⟨⟨_,this.1,this.2⟩,by omega⟩
def PW (w:World) (c:Nat):Prop:=∃ tb o cap,w.cell? ⟨11,0,none⟩ = some (.slice (some ⟨tb,o,none⟩) 9 cap) ∧ tb < c ∧ 11 < c ∧
 ∀ q,q < 9 → w.cell? ⟨tb,o + q,none⟩ = some (.int .i64 (ptab q:Int))
def FI (w:World) (c:Nat):Prop:=9 < c ∧ w.cell? ⟨9,0,none⟩ = some (.int .u64 52) ∧ w.cell? ⟨9,1,none⟩ = some (.int .u64 11) ∧ w.cell? ⟨9,2,none⟩ = some (.int .i64 (-1023))
theorem PW.below {w w':World} {c:Nat} (h:PW w c) (hb:Below c w w'):PW w' c:=by
 obtain ⟨tb,o,cap,h1,h2,h3,h4⟩:=h
 exact ⟨tb,o,cap,(hb.cell (p:=⟨11,0,none⟩) h3).trans h1,h2,h3,fun q hq => (hb.cell (p:=⟨tb,o + q,none⟩) h2).trans (h4 q hq)⟩
theorem FI.below {w w':World} {c:Nat} (h:FI w c) (hb:Below c w w'):FI w' c:=
 ⟨h.1,(hb.cell (p:=⟨9,0,none⟩) h.1).trans h.2.1,(hb.cell (p:=⟨9,1,none⟩) h.1).trans h.2.2.1,(hb.cell (p:=⟨9,2,none⟩) h.1).trans h.2.2.2⟩
theorem LC.below {w w':World} {c:Nat} (h:LC w c) (hb:Below c w w') (hs:w.heap.size ≤ w'.heap.size):LC w' c:=by
 obtain ⟨tb,o,cap,h1,h2,h3,h5,h4⟩:=h
 exact ⟨tb,o,cap,(hb.cell (p:=⟨16,0,none⟩) h3).trans h1,h2,h3,by omega,fun k hk => ⟨(hb.cell (p:=⟨tb,o + k * 2,none⟩) h2).trans (h4 k hk).1,(hb.cell (p:=⟨tb,o + k * 2 + 1,none⟩) h2).trans (h4 k hk).2⟩⟩
theorem St.most {X Y E:Nat} {s:Dcs} (h:St X Y s E):X < 10 ^ n31 * Y:=by
 have g:=(h.gr.mono (Nat.zero_le E)) (10 ^ n31)
 rw [Nat.pow_zero,Nat.mul_one,Nat.mul_one] at g
 rcases Nat.lt_or_ge X (10 ^ n31 * Y) with q | q
 ·exact q
 ·exfalso
  have h1:=g.1 q
  have h2:=dvN_lt8 h.std.ok
  have h3:=h.dp
  rw [← Nat.pow_add,pow_T8 (c:=n31 + (800 - s.dp).toNat - 800) (by have:n31 = 310:=rfl;omega)] at h1
  have h4:T8 * 1 ≤ T8 * 10 ^ (n31 + (800 - s.dp).toNat - 800):=Nat.mul_le_mul_left _ (Nat.pow_pos (by decide))
  omega
theorem ten31:10 ^ n31 * 2 ^ 27 < 2 ^ n1060:=by decide +kernel
theorem right_far {X Y a:Nat} (hY:0 < Y) (hm:X < 10 ^ n31 * Y) (ha:Y * 2 ^ a ≤ X * 2 ^ 27):a < 1060:=by
 have h1:Y * 2 ^ a < Y * 2 ^ n1060:=by
  have h2:X * 2 ^ 27 < 10 ^ n31 * Y * 2 ^ 27:=Nat.mul_lt_mul_of_pos_right hm (by decide)
  have h3:10 ^ n31 * Y * 2 ^ 27 = Y * (10 ^ n31 * 2 ^ 27):=by rw [Nat.mul_comm (10 ^ n31),Nat.mul_assoc]
  have h4:=Nat.mul_lt_mul_of_pos_left ten31 hY
  exact Nat.lt_of_le_of_lt ha (Nat.lt_trans h2 (by rw [h3];exact h4))
 exact two_lt (b:=n1060) (Nat.lt_of_mul_lt_mul_left h1)
end Go.Proofs.YtdogjghalplohaaGreatDoor.dcm
