import Derived.Test.YtjlaoeigfokkiaaGreatDoorBr44
import Derived.Test.YtjlaoeigfokkiaaGreatDoorBr43
import Derived.Test.YtjlaoeigfokkiaaGreatDoorBr31
import Derived.Test.YtjlaoeigfokkiaaGreatDoorBr42
namespace Go.Proofs.YtjlaoeigfokkiaaGreatDoor.fto
open Go.ChangeShapes Go.WideShapes Go.ChangeAt Go.RowKit
open mem Go.Sort
open ints (hide unhide)
set_option linter.unusedVariables false
set_option linter.unusedSimpArgs false
theorem round_cap {P B lo:Nat} (hB:0 < B) (hlo:Lo P B lo) (h:9218868437227405312 ≤ lo):roundR P B 9218868437227405311 = 9218868437227405312:=by
 have h1:B * (2 * vR 9218868437227405311 + 2 ^ exR 9218868437227405311) < 2 * P:=by
  have h2:B * vR 9218868437227405312 ≤ P:=Nat.le_trans (Nat.mul_le_mul_left B (vR_mono_le h)) hlo.1
  have h3:2 * vR 9218868437227405311 + 2 ^ exR 9218868437227405311 < 2 * vR 9218868437227405312:=by
   have:=vR_succ 9218868437227405311
   have hp:=Nat.two_pow_pos (exR 9218868437227405311)
   rw [show 9218868437227405311 + 1 = 9218868437227405312 from rfl] at this
   omega
  have h4:=Nat.mul_lt_mul_of_pos_left h3 hB
  rw [Nat.mul_left_comm] at h4
  omega
 unfold roundR
 rw [if_pos (Or.inl h1)]
theorem exF_le:∀ (X:List Int) (v:Nat),Dg X → v ≤ 11258999068426300 → exF X v ≤ 11258999068426300
 | [],v,_,h => h
 | c :: X,v,hX,h => by
  have hc:=hX c (by simp)
  refine exF_le X _ hX.tail ?_
  split <;> omega
theorem NumT.chars {l:List Int} {ng:Bool} {A F:List Int} {E:Option (Int × Option Bool × List Int)} (h:NumT l ng A F E):NumC l:=by
 obtain ⟨rfl,hA,hF,hE⟩:=h
 have dg:∀ (G:List Int),Dg G → NumC G:=fun G hG c hc => by have:=hG c hc;omega
 have app:∀ (G H:List Int),NumC G → NumC H → NumC (G ++ H):=fun G H hG hH c hc => by
  rcases List.mem_append.1 hc with q | q
  ·exact hG c q
  ·exact hH c q
 refine app _ _ ?_ (app _ _ (dg _ hA.dg) (app _ _ ?_ ?_))
 ·intro c hc;cases ng <;> simp [sgL] at hc;omega
 ·unfold frL
  split
  ·intro c hc;simp at hc
  ·intro c hc
   rcases List.mem_cons.1 hc with q | q
   ·omega
   ·have:=hF c q;omega
 ·rcases E with _ | ⟨ec,o,X⟩
  ·intro c hc;simp [exA] at hc
  ·obtain ⟨q1,q2,q3⟩:=hE _ rfl
   have q1':ec = 101 ∨ ec = 69:=q1
   intro c hc
   rcases List.mem_cons.1 hc with q | q
   ·omega
   ·rcases List.mem_append.1 q with q | q
    ·rcases o with _ | _ | _ <;> simp [sg3] at q <;> omega
    ·have:=q2 c q
     omega
theorem exC_le (E:Option (Int × Option Bool × List Int)) (hE:∀ q,E = some q → Dg q.2.2):-11258999068426300 ≤ exC E ∧ exC E ≤ 11258999068426300:=by
 rcases E with _ | ⟨ec,o,X⟩
 ·exact ⟨by decide,by decide⟩
 ·have:=exF_le X 0 (hE _ rfl) (by decide)
  have e1:exC (some (ec,o,X)) = if o = some true then -(exF X 0:Int) else (exF X 0:Int):=rfl
  rw [e1]
  split <;> omega
theorem u8s_emp {d:List Int} (h:d ≠ []):(strOfNums d).toList.isEmpty = false:=by
 have:(strOfNums d).toList = u8s d:=by rw [ByteArray.toList_eq];rfl
 rw [this]
 cases d with
 | nil => exact absurd rfl h
 | cons a r => rfl
theorem readBits_ok (s:ByteArray) (hs:s.size ≤ 1050000) (ng:Bool) (A F:List Int) (E:Option (Int × Option Bool × List Int)) (h:NumT (bytZ s) ng A F E) (R:Nat) (hR:FlV A F E R) (w:World) :
  Calls Tryz.prog 24 #[.string s] w fun e w' => ∃ Rb:Nat,e = .returned (.tuple #[.int .u64 (ng.toNat * 9223372036854775808 + Rb:Nat),.bool (decide (R < infR))]) ∧ (R < infR → Rb = R) ∧ Below w.heap.size w w':=by
 have hinf:infR = 9218868437227405312:=rfl
 have hlen:=h.len
 have CT:=cut_ok s w (by omega) h.chars
 obtain ⟨c1,c2,c3⟩:=cut_state h
 rw [c1,c2,c3] at CT
 have hD:=trm_dg (h.wh.dg.app h.fr)
 have h0:∀ r,trm (A ++ F) ≠ 48 :: r:=fun r e => trm_head _ _ _ e rfl
 have hLA:=trm_len (A ++ F)
 rw [List.length_append] at hLA
 have hexl:=exC_le E (fun q hq => (h.ex q hq).2.1)
 have hexc:=exC_of E
 obtain ⟨lo,hlo,hR2⟩:=hR
 rw [dv_trm] at hlo hR2
 rw [← dv_trm (A ++ F)] at hlo hR2
 generalize trm (A ++ F) = D at *
 obtain ⟨mo,hmo⟩:∃ mo,mo = (D.drop 800).any (fun z => decide (z ≠ 48)):=⟨_,rfl⟩
 have hCR:=cut_round D hD h0
 rw [← hmo] at CT hCR
 obtain ⟨d,hd⟩:∃ d,d = D.take 800 ++ (if mo = true then [49] else []):=⟨_,rfl⟩
 obtain ⟨x,hx⟩:∃ x,x = (((D.length - 800:Nat):Int)) - F.length - (if mo = true then 1 else 0) + exC E:=⟨_,rfl⟩
 rw [← hd,← hx] at CT
 have hdd:Dg d:=by
  rw [hd]
  refine Dg.app (fun z hz => hD z (List.mem_of_mem_take hz)) ?_
  split
  ·intro z hz;simp at hz;omega
  ·exact Dg.nil
 have hdl:d.length ≤ 801:=by
  rw [hd,List.length_append,List.length_take]
  split <;> simp <;> omega
 have hmoL:mo = true → 800 < D.length:=by
  intro hm
  rw [hm] at hmo
  rcases Nat.lt_or_ge 800 D.length with g | g
  ·exact g
  ·rw [List.drop_eq_nil_of_le g] at hmo;simp at hmo
 have hpow:x + d.length = exC E - F.length + D.length:=by
  rw [hx,hd,List.length_append,List.length_take]
  cases mo
  ·simp;omega
  ·have:=hmoL rfl
   simp;omega
 have hN2:=dv_lt D hD
 have hxb:-4000000000000000000 ≤ x ∧ x ≤ 4000000000000000000:=by
  rw [hx]
  split <;> omega
 have hsz:(strOfNums d).size = d.length:=str_size d
 by_cases hde:d = []
 ·have hD0:D = []:=by
   rw [hd] at hde
   have h1:=(List.append_eq_nil_iff.1 hde).1
   cases D with
   | nil => rfl
   | cons a r => simp at h1
  have hR0:R = 0:=by
   rw [← hR2]
   have h1:=dcm.round_none hlo (Nat.pow_pos (by decide)) (by
    rw [hD0,show dv [] = 0 from rfl,Nat.zero_mul,Nat.zero_mul];exact Nat.pow_pos (by decide))
   rw [h1]
   unfold dcm.cpR
   rw [if_pos (by decide)]
  rw [hde] at CT
  refine (bits_low s _ ng x w hxb (by decide) (Or.inl rfl) CT).mono ?_
  rintro e w1 ⟨rfl,b⟩
  exact ⟨0,by rw [hR0,decide_eq_true (by decide)],fun _ => hR0.symm,b⟩
 ·have hemp:=u8s_emp hde
  have hne:D ≠ []:=fun e => hde (by rw [hd,e];rw [e] at hmo;simp at hmo;rw [hmo];rfl)
  have hL1:1 ≤ D.length:=List.length_pos_iff.2 hne
  by_cases hlow:x + d.length < -330
  ·have hR0:R = 0:=by
    rw [← hR2]
    exact val_low2 hN2 (by omega) hlo
   refine (bits_low s _ ng x w hxb (by omega) (Or.inr ⟨hemp,by rw [hsz];exact hlow⟩) CT).mono ?_
   rintro e w1 ⟨rfl,b⟩
   exact ⟨0,by rw [hR0,decide_eq_true (by decide)],fun _ => hR0.symm,b⟩
  ·by_cases hhi:330 < x + d.length
   ·have hRi:R = infR:=by
     rw [← hR2]
     exact val_high (dv_ge hD hne h0) hL1 (by omega) hlo
    refine (bits_high s _ ng x w hxb (by omega) hemp (by rw [hsz];exact hhi) CT).mono ?_
    rintro e w1 ⟨rfl,b⟩
    exact ⟨9218868437227405312,by rw [hRi,decide_eq_false (Nat.lt_irrefl _)],fun h => by omega,b⟩
   ·have hxe:exC E = exX E:=by omega
    obtain ⟨lo',hlo'⟩:=dcm.lo_some (dv d * 10 ^ x.toNat * k74) (B:=10 ^ (-x).toNat) (Nat.pow_pos (by decide))
    have hrr:=hCR (exX E - F.length) (by omega) lo lo' d (by rw [hd]) x (by rw [hx,hxe];omega) hlo hlo'
    rw [hrr] at hR2
    obtain ⟨L,hL⟩:∃ L,L = min lo' 9218868437227405311:=⟨_,rfl⟩
    have hge:lo' ≤ roundR (dv d * 10 ^ x.toNat * k74) (10 ^ (-x).toNat) lo':=by unfold roundR;split <;> omega
    have hle:roundR (dv d * 10 ^ x.toNat * k74) (10 ^ (-x).toNat) L ≤ 9218868437227405312:=by
     have:roundR (dv d * 10 ^ x.toNat * k74) (10 ^ (-x).toNat) L ≤ L + 1:=by unfold roundR;split <;> omega
     omega
    have hfin:decide (roundR (dv d * 10 ^ x.toNat * k74) (10 ^ (-x).toNat) L < 9218868437227405312) = decide (R < infR) ∧ (R < infR → roundR (dv d * 10 ^ x.toNat * k74) (10 ^ (-x).toNat) L = R):=by
     rcases Nat.lt_or_ge lo' 9218868437227405312 with g | g
     ·have hLl:L = lo':=by omega
      rw [hLl] at hle ⊢
      by_cases q:roundR (dv d * 10 ^ x.toNat * k74) (10 ^ (-x).toNat) lo' < infR
      ·have e1:R = roundR (dv d * 10 ^ x.toNat * k74) (10 ^ (-x).toNat) lo':=by rw [← hR2];unfold dcm.cpR;rw [if_pos q]
       rw [e1,hinf]
       exact ⟨rfl,fun _ => rfl⟩
      ·have e1:R = infR:=by rw [← hR2];unfold dcm.cpR;rw [if_neg q]
       rw [e1]
       exact ⟨by rw [decide_eq_false (Nat.lt_irrefl infR),decide_eq_false (by omega)],fun h => absurd h (Nat.lt_irrefl _)⟩
     ·have hLl:L = 9218868437227405311:=by omega
      have e1:R = infR:=by rw [← hR2];unfold dcm.cpR;rw [if_neg (by omega)]
      rw [hLl,round_cap (Nat.pow_pos (by decide)) hlo' g,e1]
      exact ⟨by rw [decide_eq_false (Nat.lt_irrefl infR),decide_eq_false (Nat.lt_irrefl _)],fun h => absurd h (Nat.lt_irrefl _)⟩
    refine (bits_mid s _ ng x (roundR (dv d * 10 ^ x.toNat * k74) (10 ^ (-x).toNat) L) (dv d * 10 ^ x.toNat) (10 ^ (-x).toNat) w hxb (by omega) hle hemp (by rw [hsz];exact hlow) (by rw [hsz];exact hhi) CT
     (fun W => decC d x W hdd hdl (by omega) (by omega))
     (fun aT aB nT cT nB cB W g1 g2 l1 l2 => bits_gen aT aB nT cT nB cB _ _ W g1 g2 (by omega) (by omega) L (fun mid hm => by rw [lo_iff hlo'];omega) (by omega))).mono ?_
    rintro e w1 ⟨rfl,b⟩
    exact ⟨_,by rw [hfin.1],hfin.2,b⟩
end Go.Proofs.YtjlaoeigfokkiaaGreatDoor.fto
