import Derived.Test.YtjlaoeigfokkiaaGreatDoorBr35
import Derived.Test.YtjlaoeigfokkiaaGreatDoorBr28
import Derived.Test.YtjlaoeigfokkiaaGreatDoorBr13
import Derived.Test.YtjlaoeigfokkiaaGreatDoorBr15
namespace Go.Proofs.YtjlaoeigfokkiaaGreatDoor.dcm
open Go.ChangeShapes Go.WideShapes Go.ChangeAt Go.RowKit
open mem fto
open ints (hide unhide)
set_option linter.unusedVariables false
set_option linter.unusedSimpArgs false
theorem round_mono {P B P' B' lo lo':Nat} (hB:0 < B) (hB':0 < B') (h:Lo P B lo) (h':Lo P' B' lo') (hle:P * B' ≤ P' * B):roundR P B lo ≤ roundR P' B' lo':=by
 have hlo:lo ≤ lo':=by
  rcases Nat.lt_or_ge lo' lo with g | g
  ·exfalso
   have h1:=vR_mono_le (show lo' + 1 ≤ lo by omega)
   have h2:P' * B < B' * vR (lo' + 1) * B:=Nat.mul_lt_mul_of_pos_right h'.2 hB
   have h3:B' * vR (lo' + 1) * B ≤ B' * vR lo * B:=Nat.mul_le_mul_right _ (Nat.mul_le_mul_left _ h1)
   have h4:B * vR lo * B' ≤ P * B':=Nat.mul_le_mul_right _ h.1
   have e:B' * vR lo * B = B * vR lo * B':=by rw [Nat.mul_comm B',Nat.mul_right_comm,Nat.mul_comm (vR lo)]
   omega
  ·exact g
 have hr':lo' ≤ roundR P' B' lo':=by unfold roundR;split <;> omega
 have hr:roundR P B lo ≤ lo + 1:=by unfold roundR;split <;> omega
 rcases Nat.lt_or_ge lo lo' with g | g
 ·omega
 ·have e:lo = lo':=by omega
  subst e
  unfold roundR
  by_cases c:B * (2 * vR lo + 2 ^ exR lo) < 2 * P ∨ (2 * P = B * (2 * vR lo + 2 ^ exR lo) ∧ lo % 2 = 1)
  ·rw [if_pos c,if_pos]
   ·exact Nat.le_refl _
   ·generalize 2 * vR lo + 2 ^ exR lo = M at *
    have e1:B * M * B' = B' * M * B:=by rw [Nat.mul_right_comm,Nat.mul_comm B B',Nat.mul_right_comm]
    rcases c with c | ⟨c1,c2⟩
    ·left
     have h1:=Nat.mul_lt_mul_of_pos_right c hB'
     have h2:2 * P * B' ≤ 2 * P' * B:=by rw [Nat.mul_assoc,Nat.mul_assoc];exact Nat.mul_le_mul_left 2 hle
     exact Nat.lt_of_mul_lt_mul_right (a:=B) (by omega)
    ·have h1:B' * M * B ≤ 2 * P' * B:=by
      rw [← e1,← c1,Nat.mul_assoc,Nat.mul_assoc];exact Nat.mul_le_mul_left 2 hle
     have h2:=Nat.le_of_mul_le_mul_right h1 hB
     rcases Nat.lt_or_ge (B' * M) (2 * P') with q | q
     ·exact Or.inl q
     ·exact Or.inr ⟨by omega,c2⟩
  ·rw [if_neg c];split <;> omega
theorem pow_cross' (q:Int) (j:Nat):10 ^ j * 10 ^ q.toNat * 10 ^ (-(q + j)).toNat = 10 ^ (q + j).toNat * 10 ^ (-q).toNat:=by
 rw [← Nat.pow_add,← Nat.pow_add,← Nat.pow_add]
 congr 1
 omega
theorem cross_le {d N j:Nat} {q:Int} (h:d * 10 ^ j ≤ N):d * 10 ^ (q + j).toNat * k74 * 10 ^ (-q).toNat ≤ N * 10 ^ q.toNat * k74 * 10 ^ (-(q + j)).toNat:=by
 have e:=pow_cross' q j
 have e1:d * 10 ^ (q + j).toNat * k74 * 10 ^ (-q).toNat = d * 10 ^ j * (10 ^ q.toNat * 10 ^ (-(q + j)).toNat * k74):=by
  rw [Nat.mul_right_comm,Nat.mul_assoc d,← e,Nat.mul_assoc d,Nat.mul_assoc d,Nat.mul_assoc (10 ^ j),Nat.mul_assoc (10 ^ j)]
 have e2:N * 10 ^ q.toNat * k74 * 10 ^ (-(q + j)).toNat = N * (10 ^ q.toNat * 10 ^ (-(q + j)).toNat * k74):=by
  rw [Nat.mul_right_comm,Nat.mul_assoc N,Nat.mul_assoc N]
 rw [e1,e2]
 exact Nat.mul_le_mul_right _ h
theorem cross_ge {d N j:Nat} {q:Int} (h:N ≤ d * 10 ^ j):N * 10 ^ q.toNat * k74 * 10 ^ (-(q + j)).toNat ≤ d * 10 ^ (q + j).toNat * k74 * 10 ^ (-q).toNat:=by
 have e:=pow_cross' q j
 have e1:d * 10 ^ (q + j).toNat * k74 * 10 ^ (-q).toNat = d * 10 ^ j * (10 ^ q.toNat * 10 ^ (-(q + j)).toNat * k74):=by
  rw [Nat.mul_right_comm,Nat.mul_assoc d,← e,Nat.mul_assoc d,Nat.mul_assoc d,Nat.mul_assoc (10 ^ j),Nat.mul_assoc (10 ^ j)]
 have e2:N * 10 ^ q.toNat * k74 * 10 ^ (-(q + j)).toNat = N * (10 ^ q.toNat * 10 ^ (-(q + j)).toNat * k74):=by
  rw [Nat.mul_right_comm,Nat.mul_assoc N,Nat.mul_assoc N]
 rw [e1,e2]
 exact Nat.mul_le_mul_right _ h
def cpR (R:Nat):Nat:=if R < infR then R else infR
def erR (R:Nat):Value:=if R < infR then .nilIface else errR
theorem parse_full (d S:Nat) (p:Int) (hd0:1 ≤ d) (hd:d < 18446744073709551616) (hp:-345 ≤ p ∧ p ≤ 310) (hS:S = 0 ∨ S = 9223372036854775808) :
  ∃ lo,Lo (d * 10 ^ p.toNat * k74) (10 ^ (-p).toNat) lo ∧ ∀ w,PT w → 15 < w.heap.size →
   Calls Tryz.prog 158 #[.int .u64 d,.int .i64 p,.int .u64 S] w fun ed w' => ed = .returned (.tuple #[.float .f64 (S + cpR (roundR (d * 10 ^ p.toNat * k74) (10 ^ (-p).toNat) lo)),erR (roundR (d * 10 ^ p.toNat * k74) (10 ^ (-p).toNat) lo)]) ∧ Below w.heap.size w w':=by
 obtain ⟨lo,hlo,H⟩:=parse_any d S p hd0 hd hp hS
 obtain ⟨lo2,hlo2,H2⟩:=parse_inf d S p hd0 hd hp hS
 obtain rfl:=hlo.unique hlo2
 refine ⟨lo,hlo,fun w hT hg => ?_⟩
 unfold cpR erR
 by_cases hR:roundR (d * 10 ^ p.toNat * k74) (10 ^ (-p).toNat) lo < infR
 ·rw [if_pos hR,if_pos hR];exact H hR w hT hg
 ·rw [if_neg hR,if_neg hR];exact H2 (by omega) w hT hg
theorem cpR_le (R:Nat):cpR R ≤ infR:=by unfold cpR;split <;> omega
theorem cpR_mono {a b:Nat} (h:a ≤ b):cpR a ≤ cpR b:=by unfold cpR;split <;> split <;> omega
theorem erR_same {a b:Nat} (h:cpR a = cpR b):erR a = erR b:=by
 unfold cpR at h
 unfold erR
 by_cases ha:a < infR <;> by_cases hb:b < infR <;> simp only [ha,hb,if_true,if_false] at h ⊢ <;> omega
theorem word_S (S r:Nat) (ng:Bool) (hS:S = if ng then 9223372036854775808 else 0) (hr:r < 9223372036854775808):Ieee.double.word ng r = S + r:=by
 have h:=word_of (S + r) (by subst hS;split <;> omega)
 cases ng
 ·simp only [Bool.false_eq_true,if_false] at hS
  subst hS
  rw [decide_eq_false (by omega),Nat.mod_eq_of_lt (by omega),Nat.zero_add] at h
  rw [h];omega
 ·simp only [if_true] at hS
  subst hS
  rw [decide_eq_true (by omega),show (9223372036854775808 + r) % 9223372036854775808 = r by omega] at h
  exact h
theorem ord_eq (S a b:Nat) (ng:Bool) (hS:S = if ng then 9223372036854775808 else 0) (ha:a ≤ infR) (hb:b ≤ infR):(FloatKind.f64.format.order (S + a) (S + b) == some Ordering.eq) = decide (a = b):=by
 have hi:infR = 9218868437227405312:=rfl
 by_cases e:a = b
 ·subst e
  rw [decide_eq_true rfl]
  have h:=order_self (S + a) (by subst hS;split <;> omega)
  have hn:nanB (S + a) = false:=by
   unfold nanB
   subst hS
   split <;> simp <;> omega
  rw [hn] at h
  cases hc:(FloatKind.f64.format.order (S + a) (S + a) == some Ordering.eq) with
  | true => rfl
  | false => simp [bne,hc] at h
 ·rw [decide_eq_false e]
  rw [← word_S S a ng hS (by omega),← word_S S b ng hS (by omega)]
  by_cases ha':a < infR <;> by_cases hb':b < infR
  ·rw [order_word ng ng a b ha' hb']
   have hne:sv ng (vR a) ≠ sv ng (vR b):=by
    intro g
    have:vR a = vR b:=by
     unfold sv at g
     cases ng <;> simp at g <;> omega
    rcases Nat.lt_trichotomy a b with q | q | q
    ·have:=vR_mono q;omega
    ·exact e q
    ·have:=vR_mono q;omega
   cases hc:compare (sv ng (vR a)) (sv ng (vR b)) with
   | eq => exact absurd (Int.compare_eq_eq.1 hc) hne
   | lt => rfl
   | gt => rfl
  ·have e2:b = infR:=by omega
   subst e2
   show ((FloatKind.f64.decode _).order (FloatKind.f64.decode _) == _) = _
   rw [dec_fin ng a ha',show infR = 9218868437227405312 from rfl,dec_inf]
   cases ng <;> rfl
  ·have e2:a = infR:=by omega
   subst e2
   show ((FloatKind.f64.decode _).order (FloatKind.f64.decode _) == _) = _
   rw [dec_fin ng b hb',show infR = 9218868437227405312 from rfl,dec_inf]
   cases ng <;> rfl
  ·omega
end Go.Proofs.YtjlaoeigfokkiaaGreatDoor.dcm
namespace Go.Proofs.YtjlaoeigfokkiaaGreatDoor.dcm
open Go.ChangeShapes Go.WideShapes Go.ChangeAt Go.RowKit
open mem fto
open ints (hide unhide)
set_option linter.unusedVariables false
set_option linter.unusedSimpArgs false
theorem vR_zero:vR 0 = 0:=by decide
theorem lo_below {P B:Nat}:∀ n,P < B * vR (n + 1) → ∃ lo,Lo P B lo
 | 0,h => ⟨0,by rw [vR_zero];omega,h⟩
 | n + 1,h => by
  rcases Nat.lt_or_ge P (B * vR (n + 1)) with g | g
  ·exact lo_below n g
  ·exact ⟨n + 1,g,h⟩
theorem vR_ge:∀ n,n ≤ vR n
 | 0 => Nat.zero_le _
 | n + 1 => by
  have:=vR_ge n
  rw [vR_succ]
  have:=Nat.two_pow_pos (exR n)
  omega
theorem lo_some (P:Nat) {B:Nat} (hB:0 < B):∃ lo,Lo P B lo:=lo_below P (by
 have h:=vR_ge (P + 1)
 have:1 * vR (P + 1) ≤ B * vR (P + 1):=Nat.mul_le_mul_right _ hB
 omega)
theorem inf_310:vR infR ≤ 10 ^ n31 * k74:=by decide +kernel
theorem round_inf {P B lo:Nat} (h:Lo P B lo) (hB:0 < B) (hv:B * vR infR ≤ P):infR ≤ roundR P B lo:=by
 have h1:infR ≤ lo:=by
  rcases Nat.lt_or_ge lo infR with g | g
  ·exfalso
   have h2:=Nat.mul_le_mul_left B (vR_mono_le (show lo + 1 ≤ infR from g))
   have:=h.2
   omega
  ·exact g
 have:lo ≤ roundR P B lo:=by unfold roundR;split <;> omega
 omega
set_option maxRecDepth 10000 in
theorem atof_cut (k:Nat) (s:ByteArray) (m g z:Nat) (e:Int) (h:Ntx s k m g z) (hk:k ≤ 1) (hm:20 ≤ m) (ht:trs s (k + 2) m = true)
  (he:e = if g = 1 then - (mvs s (k + 3 + m + g) z:Int) else (mvs s (k + 3 + m + g) z:Int)) (hp:-345 ≤ e - 19 ∧ e - 19 ≤ 310) (w:World) (hF:Fy w) (hSl:Slow w w.heap.size) :
  ∃ lo,Lo (mvs s (k + 2) m * 10 ^ (e - m).toNat * k74) (10 ^ (-(e - m)).toNat) lo ∧
   Calls Tryz.prog 126 #[.string s] w fun ed w' => ed = .returned (.tuple #[.float .f64 (k * 9223372036854775808 + cpR (roundR (mvs s (k + 2) m * 10 ^ (e - m).toNat * k74) (10 ^ (-(e - m)).toNat) lo)),.int .i64 s.size,erR (roundR (mvs s (k + 2) m * 10 ^ (e - m).toNat * k74) (10 ^ (-(e - m)).toNat) lo)]) ∧ Below w.heap.size w w':=by
 have hsz1:s.size ≤ 2000000:=by have:=h.sz;have:=h.m1;have:=h.z1;have:=h.g1;omega
 have hsz2:k + 4 ≤ s.size:=by have:=h.sz;have:=h.z0;omega
 have hBq:0 < 10 ^ (-(e - m)).toNat:=Nat.pow_pos (by decide)
 obtain ⟨lo,hlo⟩:=lo_some (mvs s (k + 2) m * 10 ^ (e - m).toNat * k74) hBq
 refine ⟨lo,hlo,?_⟩
 obtain ⟨j,hj⟩:∃ j,m = 19 + j:=⟨m - 19,by omega⟩
 have hpq:e - 19 = (e - m) + (j:Int):=by omega
 obtain ⟨d,hd⟩:∃ d,d = mvs s (k + 2) 19:=⟨_,rfl⟩
 have f1:49 ≤ bz s (k + 2):=by have a1:=h.bf (by omega);have a2:=h.bd 0 (by omega);rw [Nat.add_zero] at a2;omega
 have hd0:1 ≤ d:=by rw [hd];exact mvs_pos s (k + 2) f1 _ (by omega)
 have hd1:d < 10000000000000000000:=by rw [hd];exact mvs_lt s (k + 2) m h.bd 19 (by omega)
 obtain ⟨r,hr,hrj⟩:=dvN_split (tdec_ok h.bd) 19 j
 rw [tdec_dv h.bd 19 (by omega),tdec_dv h.bd (19 + j) (by omega),← hj,← hd] at hr
 have hS2:k * 9223372036854775808 = 0 ∨ k * 9223372036854775808 = 9223372036854775808:=by omega
 obtain ⟨S,hS⟩:∃ S,S = k * 9223372036854775808:=⟨_,rfl⟩
 rw [← hS] at hS2 ⊢
 obtain ⟨lo0,hlo0,PA⟩:=parse_full d S (e - 19) hd0 (by omega) hp hS2
 obtain ⟨lo1,hlo1,PB⟩:=parse_full (d + 1) S (e - 19) (by omega) (by omega) hp hS2
 have hBp:0 < 10 ^ (-(e - 19)).toNat:=Nat.pow_pos (by decide)
 have m0:roundR (d * 10 ^ (e - 19).toNat * k74) (10 ^ (-(e - 19)).toNat) lo0 ≤ roundR (mvs s (k + 2) m * 10 ^ (e - m).toNat * k74) (10 ^ (-(e - m)).toNat) lo:=by
  refine round_mono hBp hBq hlo0 hlo ?_
  rw [hpq]
  exact cross_le (by rw [hr];omega)
 have m1:roundR (mvs s (k + 2) m * 10 ^ (e - m).toNat * k74) (10 ^ (-(e - m)).toNat) lo ≤ roundR ((d + 1) * 10 ^ (e - 19).toNat * k74) (10 ^ (-(e - 19)).toNat) lo1:=by
  refine round_mono hBq hBp hlo hlo1 ?_
  rw [hpq]
  exact cross_ge (by rw [hr,Nat.add_mul];omega)
 have big:310 < e → cpR (roundR (d * 10 ^ (e - 19).toNat * k74) (10 ^ (-(e - 19)).toNat) lo0) = cpR (roundR ((d + 1) * 10 ^ (e - 19).toNat * k74) (10 ^ (-(e - 19)).toNat) lo1):=by
  intro he3
  have hB1:10 ^ (-(e - 19)).toNat = 1:=by rw [show (-(e - 19)).toNat = 0 by omega,Nat.pow_zero]
  have hd18:1000000000000000000 ≤ d:=by
   obtain ⟨r1,hr1,-⟩:=dvN_split (tdec_ok h.bd) 1 18
   rw [show (1 + 18:Nat) = 19 from rfl,tdec_dv h.bd 1 (by omega),tdec_dv h.bd 19 (by omega),← hd] at hr1
   have e1:mvs s (k + 2) 1 = (bz s (k + 2) - 48).toNat:=by
    show 0 * 10 + (bz s (k + 2 + 0) - 48).toNat = _
    rw [Nat.add_zero];omega
   rw [e1] at hr1
   have h4:1 * 10 ^ 18 ≤ (bz s (k + 2) - 48).toNat * 10 ^ 18:=Nat.mul_le_mul_right _ (by omega)
   have h5:(10:Nat) ^ 18 = 1000000000000000000:=by decide
   rw [h5] at h4 hr1
   omega
  have key:∀ (x l:Nat),1000000000000000000 ≤ x → Lo (x * 10 ^ (e - 19).toNat * k74) (10 ^ (-(e - 19)).toNat) l → cpR (roundR (x * 10 ^ (e - 19).toNat * k74) (10 ^ (-(e - 19)).toNat) l) = infR:=by
   intro x l hx hl
   have h5:=round_inf hl hBp (by
    rw [hB1,Nat.one_mul]
    refine Nat.le_trans inf_310 (Nat.mul_le_mul_right _ ?_)
    have h6:(10:Nat) ^ n31 = 10 ^ 18 * 10 ^ (n31 - 18):=by rw [← Nat.pow_add,show 18 + (n31 - 18) = n31 from rfl]
    rw [h6]
    exact Nat.mul_le_mul hx (Nat.pow_le_pow_right (by decide) (by have:n31 = 310:=rfl;omega)))
   unfold cpR
   rw [if_neg (by omega)]
  rw [key d lo0 hd18 hlo0,key (d + 1) lo1 (by omega) hlo1]
 generalize hR0:roundR (d * 10 ^ (e - 19).toNat * k74) (10 ^ (-(e - 19)).toNat) lo0 = R0 at *
 generalize hR1:roundR ((d + 1) * 10 ^ (e - 19).toNat * k74) (10 ^ (-(e - 19)).toNat) lo1 = R1 at *
 obtain ⟨ng,hng⟩:∃ ng:Bool,ng = decide (k = 1):=⟨_,rfl⟩
 have hSn:S = if ng then 9223372036854775808 else 0:=by
  rw [hS,hng]
  have:k = 0 ∨ k = 1:=by omega
  rcases this with rfl | rfl <;> rfl
 have hmin:min m 19 = 19:=by omega
 have m0':¬ m = 0:=by omega
 have SP:Calls Tryz.prog 146 #[.string s] w fun e w' => e = .returned (.tuple #[.float .f64 0,.int .i64 0,.bool false]) ∧ w' = w:=by
  have:k = 0 ∨ k = 1:=by omega
  rcases this with rfl | rfl
  ·exact special0 s w (by omega) (by rw [← bz_at];exact h.b1)
  ·exact special1 s w (by omega) hsz1 (by omega) (by rw [← bz_at];exact h.b0 rfl) (by rw [← bz_at];exact h.b1)
 have RF:Calls Tryz.prog 147 #[.string s] w fun ed w' => ed = .returned (.tuple #[.int .u64 d,.int .i64 (e - 19),.bool ng,.bool true,.bool false,.int .i64 s.size,.bool true]) ∧ w' = w:=by
  have:k = 0 ∨ k = 1:=by omega
  rcases this with rfl | rfl
  ·have RF:=readF0 s m g z w h
   rw [if_neg m0',hmin,ht,← hd,← he] at RF
   rw [hng];exact RF
  ·have RF:=readF1 s m g z w h
   rw [if_neg m0',hmin,ht,← hd,← he] at RF
   rw [hng];exact RF
 have PA':=PA w hF.fx.fw.pt hF.fx.fw.g
 have PB':∀ W,Below w.heap.size w W → Calls Tryz.prog 158 #[.int .u64 ((d + 1:Nat):Int),.int .i64 (e - 19),.int .u64 S] W fun ed w' => ed = .returned (.tuple #[.float .f64 (S + cpR R1),erR R1]) ∧ Below w.heap.size W w':=fun W hW => by
  refine (PB W (hF.below hW).fx.fw.pt (hF.below hW).fx.fw.g).mono ?_
  rintro ed w' ⟨h1,h2⟩
  exact ⟨h1,h2.mono hW.size⟩
 have hord:=ord_eq S (cpR R0) (cpR R1) ng hSn (cpR_le _) (cpR_le _)
 by_cases hsame:cpR R0 = cpR R1
 ·rw [decide_eq_true hsame] at hord
  have C:=atof_same s d S (S + cpR R0) (S + cpR R1) (e - 19) ng w hSn hd0 (by omega) hp hsz1 hF.opt hord SP RF (erR R0) (erR R1) PA' PB'
  refine C.mono ?_
  rintro ed w' ⟨rfl,hb⟩
  have hc:cpR R0 = cpR (roundR (mvs s (k + 2) m * 10 ^ (e - m).toNat * k74) (10 ^ (-(e - m)).toNat) lo):=Nat.le_antisymm (cpR_mono m0) (by rw [hsame];exact cpR_mono m1)
  exact ⟨by rw [hc,erR_same hc],hb⟩
 ·rw [decide_eq_false hsame] at hord
  have he3:e ≤ 310:=by
   rcases Int.lt_or_le 310 e with q | q
   ·exact absurd (big q) hsame
   ·exact q
  have SET:∀ W b,Dec W b zdc → Calls Tryz.prog 153 #[.pointer (some ⟨b,0,none⟩),.string s] W fun ed w' => ed = .returned (.bool true) ∧ (∃ s',Dec w' b s' ∧ St (mvs s (k + 2) m * 10 ^ (e - m).toNat) (10 ^ (-(e - m)).toNat) s' (800 - s'.dp).toNat ∧ -330 ≤ s'.dp ∧ s'.ng = ng) ∧ Below b W w' ∧ w'.heap.size = W.heap.size:=fun W b hz => by
   have fin:∀ ed w',(ed = Ending.returned (.bool true) ∧ (∃ s',Dec w' b s' ∧ SI s (k + 2) s' m ∧ s'.dp = (if g = 1 then - (mvs s (k + 3 + m + g) z:Int) else (mvs s (k + 3 + m + g) z:Int)) ∧ s'.ng = ng) ∧ Below b W w' ∧ w'.heap.size = W.heap.size) → ed = .returned (.bool true) ∧ (∃ s',Dec w' b s' ∧ St (mvs s (k + 2) m * 10 ^ (e - m).toNat) (10 ^ (-(e - m)).toNat) s' (800 - s'.dp).toNat ∧ -330 ≤ s'.dp ∧ s'.ng = ng) ∧ Below b W w' ∧ w'.heap.size = W.heap.size:=by
    rintro ed w' ⟨h1,⟨s',g1,g2,g3,g4⟩,h2,h3⟩
    rw [← he] at g3
    have q:=set_st h.bd (by intro q;omega) (by omega) g2 (by omega)
    rw [g3] at q
    refine ⟨h1,⟨s',g1,?_,by omega,g4⟩,h2,h3⟩
    rw [g3];exact q
   have:k = 0 ∨ k = 1:=by omega
   rcases this with rfl | rfl
   ·rw [hng] at fin ⊢
    exact (set0 s b m g z zdc W h (by omega) hz rfl rfl).mono fin
   ·rw [hng] at fin ⊢
    exact (set1 s b m g z zdc W h (by omega) hz rfl rfl).mono fin
  have FB:∀ W b s',Dec W b s' → St (mvs s (k + 2) m * 10 ^ (e - m).toNat) (10 ^ (-(e - m)).toNat) s' (800 - s'.dp).toNat → -330 ≤ s'.dp → Slow W b → Calls Tryz.prog 154 #[.pointer (some ⟨b,0,none⟩),.pointer (some ⟨9,0,none⟩)] W fun ed w' => FbA (mvs s (k + 2) m * 10 ^ (e - m).toNat) (10 ^ (-(e - m)).toNat) s'.ng ed ∧ Below b W w':=
   fun W b s' h1 h2 h3 h4 => fbits_ok b _ _ s' W h1 h2 h3 h4.lc h4.pw h4.fi
  have C:=atof_slow s d S (S + cpR R0) (S + cpR R1) _ _ (e - 19) ng w hSn hd0 (by omega) hp hsz1 hF.opt hord SP RF (erR R0) (erR R1) PA' PB' hSl SET FB
  refine C.mono ?_
  rintro ed w' ⟨⟨lo2,R,hlo2,hR⟩,hb⟩
  obtain rfl:=hlo.unique hlo2
  refine ⟨?_,hb⟩
  unfold cpR erR
  rcases hR with ⟨r1,r2,r3⟩ | ⟨r1,r3⟩
  ·rw [if_pos r1,if_pos r1,r3,r2]
  ·rw [if_neg (by omega),if_neg (by omega),r3]
end Go.Proofs.YtjlaoeigfokkiaaGreatDoor.dcm
