import Derived.Test.YtjlaoeigfokkiaaGreatDoorBr33
import Derived.Test.YtjlaoeigfokkiaaGreatDoorBr39
import Derived.Test.YtjlaoeigfokkiaaGreatDoorBr30
import Derived.Test.YtjlaoeigfokkiaaGreatDoorBr22
import GoSem.Op.String
import Derived.Test.YtjlaoeigfokkiaaGreatDoorBr43
import Derived.Test.YtjlaoeigfokkiaaGreatDoorBr26
import Derived.Test.YtjlaoeigfokkiaaGreatDoorBr32
import Derived.Lib.ParseIntB
namespace Go.Proofs.YtjlaoeigfokkiaaGreatDoor.fto
open Go.ChangeShapes Go.WideShapes Go.ChangeAt Go.RowKit
open mem
open ints (hide unhide)
set_option linter.unusedVariables false
set_option linter.unusedSimpArgs false
def stD (ng dot:Bool) (H:List Int) (fr:Nat):Cs:=⟨ng,(trm H).take 800,(((trm H).length - 800:Nat):Int) - fr,0,dot,false,false,((trm H).drop 800).any (fun z => decide (z ≠ 48))⟩
theorem trm_snoc (H:List Int) (c:Int):trm (H ++ [c]) = if trm H = [] then (if c = 48 then [] else [c]) else trm H ++ [c]:=by
 induction H with
 | nil =>
  by_cases h:c = 48
  ·subst h;rfl
  ·show List.dropWhile _ [c] = _
   have e0:trm [] = []:=rfl
   rw [List.dropWhile_cons,if_neg (by simpa using h),if_pos e0,if_neg h]
 | cons a H ih =>
  by_cases h:a = 48
  ·subst h
   have e:∀ l:List Int,trm (48 :: l) = trm l:=fun l => by unfold trm;rw [List.dropWhile_cons,if_pos (by decide)]
   rw [List.cons_append,e,e,ih]
  ·rw [List.cons_append,trm_of (fun r e => h (List.cons.inj e).1),trm_of (fun r e => h (List.cons.inj e).1),if_neg (by simp)]
   rfl
theorem stD_step (ng dot:Bool) (H:List Int) (fr:Nat) (c:Int) (hc:48 ≤ c ∧ c ≤ 57):cstep (stD ng dot H fr) c = stD ng dot (H ++ [c]) (if dot then fr + 1 else fr):=by
 have hx:cx (stD ng dot H fr) = (((trm H).length - 800:Nat):Int) - ((if dot then fr + 1 else fr:Nat):Int):=by
  unfold cx stD
  cases dot
  ·simp
  ·simp;omega
 unfold cstep
 rw [if_neg (by omega),if_neg (by omega),if_neg (by omega),if_neg (by omega),hx,if_neg (by simp [stD])]
 rcases Nat.lt_or_ge (trm H).length 800 with h | h
 ·have hb:(stD ng dot H fr).b = trm H:=List.take_of_length_le (by omega)
  have hmo:(stD ng dot H fr).mo = false:=by
   show ((trm H).drop 800).any _ = false
   rw [List.drop_eq_nil_of_le (by omega)];rfl
  rw [hb,if_neg (by omega)]
  have hsn:=trm_snoc H c
  by_cases g:c ≠ 48 ∨ trm H ≠ []
  ·rw [if_pos g]
   have e1:trm (H ++ [c]) = trm H ++ [c]:=by
    rw [hsn]
    by_cases g2:trm H = []
    ·rw [if_pos g2,if_neg (by rcases g with g | g;exact g;exact absurd g2 g),g2];rfl
    ·rw [if_neg g2]
   unfold stD
   rw [e1]
   have l1:(trm H ++ [c]).length ≤ 800:=by rw [List.length_append,List.length_singleton];omega
   rw [List.take_of_length_le l1,List.drop_eq_nil_of_le l1,List.drop_eq_nil_of_le (show (trm H).length ≤ 800 by omega)]
   simp only [Cs.mk.injEq,List.any_nil,and_true,true_and]
   omega
  ·rw [if_neg g]
   have g1:c = 48:=Classical.byContradiction fun q => g (Or.inl q)
   have g2:trm H = []:=Classical.byContradiction fun q => g (Or.inr q)
   unfold stD
   rw [hsn,if_pos g2,if_pos g1,g2]
   rfl
 ·have hbl:(stD ng dot H fr).b.length = 800:=by
   show ((trm H).take 800).length = 800
   rw [List.length_take];omega
  rw [if_pos hbl]
  have e1:trm (H ++ [c]) = trm H ++ [c]:=by
   rw [trm_snoc,if_neg]
   intro e
   rw [e] at h
   simp at h
  unfold stD
  rw [e1,List.take_append_of_le_length h,List.drop_append_of_le_length h,List.any_append,List.length_append,List.length_singleton]
  simp only [Cs.mk.injEq,List.any_cons,List.any_nil,Bool.or_false,and_true,true_and]
  omega
theorem fold_digs (ng dot:Bool):∀ (G H:List Int) (fr:Nat),Dg G → G.foldl cstep (stD ng dot H fr) = stD ng dot (H ++ G) (if dot then fr + G.length else fr)
 | [],H,fr,_ => by cases dot <;> simp
 | c :: G,H,fr,hG => by
  rw [List.foldl_cons,stD_step ng dot H fr c (hG c (by simp)),fold_digs ng dot G (H ++ [c]) _ hG.tail]
  cases dot
  ·simp
  ·simp only [if_true,List.append_assoc,List.singleton_append,List.length_cons]
   congr 1
   omega
def exF:List Int → Nat → Nat
 | [],v => v
 | c :: r,v => exF r (if v < 1125899906842624 then 10 * v + (c - 48).toNat else v)
theorem exF_of:∀ (X:List Int) (v u:Nat),(v = u ∨ (1125899906842624 ≤ v ∧ 1125899906842624 ≤ u)) → (exF X v = u * 10 ^ X.length + dv X ∨ (1125899906842624 ≤ exF X v ∧ 1125899906842624 ≤ u * 10 ^ X.length + dv X))
 | [],v,u,h => by simpa [exF,dv] using h
 | c :: X,v,u,h => by
  have key:u * 10 ^ (c :: X).length + dv (c :: X) = (u * 10 + (c - 48).toNat) * 10 ^ X.length + dv X:=by
   rw [dv_cons,List.length_cons,Nat.pow_succ (n:=10),Nat.add_mul,Nat.mul_comm (10 ^ X.length) 10,← Nat.mul_assoc]
   omega
  rw [key]
  refine exF_of X _ _ ?_
  split
  ·rcases h with h | h
   ·left;omega
   ·omega
  ·right;omega
theorem fold_exp (S:Cs) (he:S.e = true):∀ (X:List Int),Dg X → X.foldl cstep S = { S with ex:=exF X S.ex }
 | [],_ => rfl
 | c :: X,hX => by
  have hc:=hX c (by simp)
  have e1:cstep S c = { S with ex:=if S.ex < 1125899906842624 then 10 * S.ex + (c - 48).toNat else S.ex }:=by
   unfold cstep
   rw [if_neg (by omega),if_neg (by omega),if_neg (by omega),if_neg (by omega),if_pos he]
   split <;> rfl
  rw [List.foldl_cons,e1,fold_exp { S with ex:=if S.ex < 1125899906842624 then 10 * S.ex + (c - 48).toNat else S.ex } he X hX.tail]
  rfl
def exC:Option (Int × Option Bool × List Int) → Int
 | none => 0
 | some (_,o,X) => if o = some true then -(exF X 0:Int) else (exF X 0:Int)
theorem exC_of (E:Option (Int × Option Bool × List Int)):exC E = exX E ∨ (1125899906842624 ≤ exC E ∧ 1125899906842624 ≤ exX E) ∨ (exC E ≤ -1125899906842624 ∧ exX E ≤ -1125899906842624):=by
 rcases E with _ | ⟨ec,o,X⟩
 ·exact Or.inl rfl
 ·have h:=exF_of X 0 0 (Or.inl rfl)
  rw [Nat.zero_mul,Nat.zero_add] at h
  have e1:exC (some (ec,o,X)) = if o = some true then -(exF X 0:Int) else (exF X 0:Int):=rfl
  have e2:exX (some (ec,o,X)) = if o = some true then -(dv X:Int) else (dv X:Int):=rfl
  rw [e1,e2]
  by_cases g:o = some true
  ·rw [if_pos g,if_pos g];omega
  ·rw [if_neg g,if_neg g];omega
theorem cut_state {l:List Int} {ng:Bool} {A F:List Int} {E:Option (Int × Option Bool × List Int)} (h:NumT l ng A F E) :
  (l.foldl cstep cs0).ng = ng ∧ cutD (l.foldl cstep cs0) = (trm (A ++ F)).take 800 ++ (if ((trm (A ++ F)).drop 800).any (fun z => decide (z ≠ 48)) = true then [49] else []) ∧
   cutX (l.foldl cstep cs0) = (((trm (A ++ F)).length - 800:Nat):Int) - F.length - (if ((trm (A ++ F)).drop 800).any (fun z => decide (z ≠ 48)) = true then 1 else 0) + exC E:=by
 obtain ⟨rfl,hA,hF,hE⟩:=h
 have s1:(sgL ng).foldl cstep cs0 = stD ng false [] 0:=by cases ng <;> rfl
 have s2:(sgL ng ++ A).foldl cstep cs0 = stD ng false A 0:=by
  rw [List.foldl_append,s1,fold_digs ng false A [] 0 hA.dg];rfl
 have s3:∃ dot,(sgL ng ++ (A ++ frL F)).foldl cstep cs0 = stD ng dot (A ++ F) F.length:=by
  rw [← List.append_assoc,List.foldl_append,s2]
  unfold frL
  by_cases h0:F = []
  ·rw [if_pos h0,h0]
   exact ⟨false,by simp⟩
  ·rw [if_neg h0,List.foldl_cons]
   have:cstep (stD ng false A 0) 46 = stD ng true A 0:=by unfold cstep;rw [if_pos rfl];rfl
   rw [this,fold_digs ng true F A 0 hF]
   exact ⟨true,by simp⟩
 obtain ⟨dot,s3⟩:=s3
 have s4:∃ (ee dn:Bool) (ex:Nat),(sgL ng ++ (A ++ (frL F ++ exA E))).foldl cstep cs0 = { stD ng dot (A ++ F) F.length with e:=ee,dn:=dn,ex:=ex } ∧ (if dn then -(ex:Int) else (ex:Int)) = exC E:=by
  have e0:sgL ng ++ (A ++ (frL F ++ exA E)) = (sgL ng ++ (A ++ frL F)) ++ exA E:=by simp
  rw [e0,List.foldl_append,s3]
  rcases E with _ | ⟨ec,o,X⟩
  ·exact ⟨false,false,0,rfl,rfl⟩
  ·obtain ⟨q1,q2,q3⟩:=hE _ rfl
   have c1:cstep (stD ng dot (A ++ F) F.length) ec = { stD ng dot (A ++ F) F.length with e:=true }:=by
    unfold cstep
    have:ec = 101 ∨ ec = 69:=q1
    rw [if_neg (by omega),if_pos this]
   show ∃ ee dn ex,(ec :: (sg3 o ++ X)).foldl cstep _ = _ ∧ _
   rw [List.foldl_cons,c1,List.foldl_append]
   rcases o with _ | _ | _
   ·refine ⟨true,false,exF X 0,?_,rfl⟩
    exact fold_exp _ rfl X q2
   ·refine ⟨true,false,exF X 0,?_,rfl⟩
    exact fold_exp _ rfl X q2
   ·refine ⟨true,true,exF X 0,?_,rfl⟩
    exact fold_exp _ rfl X q2
 obtain ⟨ee,dn,ex,s4,s5⟩:=s4
 rw [s4]
 refine ⟨rfl,?_,?_⟩
 ·unfold cutD
  show (if ((trm (A ++ F)).drop 800).any _ = true then (trm (A ++ F)).take 800 ++ [49] else (trm (A ++ F)).take 800) = _
  split <;> simp_all
 ·unfold cutX
  rw [← s5]
  show (if ((trm (A ++ F)).drop 800).any _ = true then ((((trm (A ++ F)).length - 800:Nat):Int) - F.length) - 1 else ((((trm (A ++ F)).length - 800:Nat):Int) - F.length)) + (if dn then -(ex:Int) else (ex:Int)) = _
  split <;> simp
end Go.Proofs.YtjlaoeigfokkiaaGreatDoor.fto
namespace Go.Proofs.YtjlaoeigfokkiaaGreatDoor.fto
open Go.ChangeShapes Go.WideShapes Go.ChangeAt Go.RowKit
open mem Go.Sort
open ints (hide unhide)
set_option linter.unusedVariables false
set_option linter.unusedSimpArgs false
def n331:Nat:=331
theorem n331_eq:n331 = 331:=rfl
theorem low_331:2 * k74 < 10 ^ n331:=by decide +kernel
theorem val_low2 {N n lo:Nat} {q:Int} (hN:N < 10 ^ n) (hq:q + n ≤ -331) (hlo:Lo (N * 10 ^ q.toNat * k74) (10 ^ (-q).toNat) lo):dcm.cpR (roundR (N * 10 ^ q.toNat * k74) (10 ^ (-q).toNat) lo) = 0:=by
  have h:=dcm.round_none hlo (Nat.pow_pos (by decide)) (by
    have:=n331_eq
    rw [show q.toNat = 0 by omega,Nat.pow_zero,Nat.mul_one]
    have h1:10 ^ n * 10 ^ n331 ≤ 10 ^ (-q).toNat:=by
      rw [← Nat.pow_add]
      exact Nat.pow_le_pow_right (by decide) (by omega)
    refine Nat.lt_of_lt_of_le ?_ h1
    have h2:2 * (N * k74) ≤ 10 ^ n * (2 * k74):=by
      rw [Nat.mul_left_comm]
      exact Nat.mul_le_mul_right _ (Nat.le_of_lt hN)
    exact Nat.lt_of_le_of_lt h2 (Nat.mul_lt_mul_of_pos_left low_331 (Nat.pow_pos (by decide))))
  rw [h]
  unfold dcm.cpR
  rw [if_pos (by decide)]
theorem dv_zero:∀ l:List Int,Dg l → (l.any (fun z => decide (z ≠ 48)) = false ↔ dv l = 0)
  | [],_ => by simp [dv]
  | c :: r,h => by
    have hc:=h c (by simp)
    have ih:=dv_zero r h.tail
    have hp:0 < 10 ^ r.length:=Nat.pow_pos (by decide)
    rw [dv_cons,List.any_cons,Bool.or_eq_false_iff,ih]
    constructor
    · rintro ⟨h1,h2⟩
      have:c = 48:=by simpa using h1
      rw [h2,this];simp
    · intro e
      have h1:(c - 48).toNat * 10 ^ r.length = 0:=by omega
      have h2:(c - 48).toNat = 0:=by
        rcases Nat.mul_eq_zero.1 h1 with g | g
        · exact g
        · omega
      have h3:c = 48:=by omega
      exact ⟨by simp [h3],by omega⟩
/-- what the cut number is rounded to -/
theorem cut_round (D:List Int) (hD:Dg D) (h0:∀ r,D ≠ 48 :: r) (q:Int) (hq:q + D.length ≤ 330) (lo lo':Nat)
    (d:List Int) (hd:d = D.take 800 ++ (if (D.drop 800).any (fun z => decide (z ≠ 48)) = true then [49] else []))
    (x:Int) (hx:x = ((D.length - 800:Nat):Int) + q - (if (D.drop 800).any (fun z => decide (z ≠ 48)) = true then 1 else 0))
    (h:Lo (dv D * 10 ^ q.toNat * k74) (10 ^ (-q).toNat) lo) (h':Lo (dv d * 10 ^ x.toNat * k74) (10 ^ (-x).toNat) lo') :
    roundR (dv D * 10 ^ q.toNat * k74) (10 ^ (-q).toNat) lo = roundR (dv d * 10 ^ x.toNat * k74) (10 ^ (-x).toNat) lo':=by
  have hDd:Dg (D.drop 800):=fun z hz => hD z (List.mem_of_mem_drop hz)
  have hsp:dv D = dv (D.take 800) * 10 ^ (D.drop 800).length + dv (D.drop 800):=by rw [← dv_app,List.take_append_drop]
  have hl:(D.drop 800).length = D.length - 800:=List.length_drop
  cases hz:(D.drop 800).any (fun z => decide (z ≠ 48))
  · rw [hz] at hd hx
    have hr:=(dv_zero _ hDd).1 hz
    simp only [Bool.false_eq_true,if_false,List.append_nil] at hd
    simp only [Bool.false_eq_true,if_false] at hx
    rw [hr,Nat.add_zero,hl] at hsp
    rw [hd] at h' ⊢
    refine round_eqv (Nat.pow_pos (by decide)) (Nat.pow_pos (by decide)) h h' ?_
    rw [hsp]
    have hx2:x = q + ((D.length - 800:Nat):Int):=by omega
    rw [hx2]
    have:=dcm.pow_cross' q (D.length - 800)
    generalize 10 ^ (D.length - 800) = a at *
    generalize 10 ^ q.toNat = b at *
    generalize 10 ^ (-(q + ((D.length - 800:Nat):Int))).toNat = c at *
    generalize 10 ^ (q + ((D.length - 800:Nat):Int)).toNat = e at *
    generalize 10 ^ (-q).toNat = f at *
    generalize dv (D.take 800) = T at *
    generalize k74 = k at *
    calc T * a * b * k * c = T * (a * b * c) * k:=by ac_rfl
      _ = T * (e * f) * k:=by rw [this]
      _ = T * e * k * f:=by ac_rfl
  · rw [hz] at hd hx
    have hr:dv (D.drop 800) ≠ 0:=fun e => by rw [(dv_zero _ hDd).2 e] at hz;cases hz
    simp only [if_true] at hd hx
    have hlt:=dv_lt _ hDd
    have hne:D.drop 800 ≠ []:=fun e => by rw [e] at hz;simp at hz
    have hj:1 ≤ D.length - 800:=by
      rcases Nat.eq_zero_or_pos (D.length - 800) with g | g
      · exact absurd (List.drop_eq_nil_of_le (by omega)) hne
      · exact g
    have hTk:(D.take 800).length = 800:=by rw [List.length_take];omega
    have hT:10 ^ n79 ≤ dv (D.take 800):=by
      have:=dv_ge (D:=D.take 800) (fun z hz => hD z (List.mem_of_mem_take hz)) (fun e => by rw [e] at hTk;simp at hTk) (fun r e => by
        cases D with
        | nil => simp at e
        | cons a D' => exact h0 D' (by rw [List.take_succ_cons] at e;rw [(List.cons.inj e).1]))
      have e79:(D.take 800).length - 1 = n79:=by have:=n79_eq;omega
      rw [e79] at this
      exact this
    have hdv:dv d = 10 * dv (D.take 800) + 1:=by
      rw [hd,dv_app]
      simp [dv]
      omega
    rw [hl] at hlt hsp
    rw [hdv] at h' ⊢
    rw [hsp] at h ⊢
    obtain ⟨g,hg⟩:∃ g:Int,g = q + ((D.length - 800:Nat):Int):=⟨_,rfl⟩
    have e1:q = g - ((D.length - 800:Nat):Int):=by omega
    have e2:x = g - 1:=by omega
    rw [e1] at h ⊢
    rw [e2] at h' ⊢
    exact cut_alike (by omega) (by omega) hlt hT h h'
theorem dT_dv (l:List Int):∀ k,k ≤ l.length → dT l k = dv (l.take k):=by
  intro k
  induction k with
  | zero => intro _;simp [dT,dv]
  | succ k ih =>
    intro hk
    rw [dv_take_succ l k (by omega),← ih (by omega)]
    show 10 * dT l k + (l.getD k 0 - 48).toNat = _
    rw [List.getD_eq_getElem?_getD,List.getElem?_eq_getElem (by omega)]
    rfl
def n801:Nat:=801
def m100:Nat:=100
theorem n801_eq:n801 = 801:=rfl
theorem big_801:10 ^ n801 ≤ 2 ^ (32 * m100):=by decide +kernel
/-- dec of the digits that cut leaves -/
theorem decC (d:List Int) (x:Int) (w:World) (hd:Dg d) (hl:d.length ≤ 801) (hx0:-10000 ≤ x) (hx1:x ≤ 10000) :
    Calls Tryz.prog 47 #[.string (strOfNums d),.int .i64 x] w fun e w' => ∃ aT nT cT aB nB cB,e = .returned (.agg #[.slice aT nT cT,.slice aB nB cB]) ∧ Big w' aT nT cT (dv d * 10 ^ x.toNat) ∧ nT ≤ 20000 ∧ Big w' aB nB cB (10 ^ (-x).toNat) ∧ nB ≤ 20000 ∧ Below w.heap.size w w':=by
  have hb:Byt d:=fun z hz => by have:=hd z hz;omega
  have e1:bytesZ (strOfNums d) = d:=bytesZ_str _ hb
  have e2:(strOfNums d).size = d.length:=str_len d
  refine dec_anyM _ (dv d) x w (by rw [e2];omega) (by rw [e1];exact hd) (by rw [e1,e2,dT_dv d _ (Nat.le_refl _),List.take_length]) m100 (by decide) ?_ hx0 hx1
  have h1:=dv_lt d hd
  have h2:10 ^ d.length ≤ 10 ^ n801:=Nat.pow_le_pow_right (by decide) (by have:=n801_eq;omega)
  exact Nat.lt_of_lt_of_le h1 (Nat.le_trans h2 big_801)
end Go.Proofs.YtjlaoeigfokkiaaGreatDoor.fto
