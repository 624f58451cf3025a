import Derived.Test.YtdogjghalplohaaGreatDoorRows
import Derived.Test.YtdogjghalplohaaGreatDoorJt1
import Derived.Test.YtdogjghalplohaaGreatDoorJt5
import Derived.Test.YtdogjghalplohaaGreatDoorJt12
import Derived.Test.YtdogjghalplohaaGreatDoorJt13
import GoSem.Core.Float
import Derived.Test.YtdogjghalplohaaGreatDoorJt14
set_option linter.unusedVariables false
set_option linter.unusedSimpArgs false
namespace Go.Proofs.YtdogjghalplohaaGreatDoor.mem
def b52:Nat:=4503599627370496
def b53:Nat:=9007199254740992
def infR:Nat:=9218868437227405312
def e22:Nat:=1022
theorem e22_eq:e22=1022:=rfl
def k22:Nat:=2 ^ e22
def k74:Nat:=2 ^ (52+e22)
theorem k22_pos:0<k22:=Nat.two_pow_pos e22
theorem b52_eq:b52=2 ^ 52:=rfl
theorem k74_eq:k74=b52 * k22:=by
 unfold k74 k22
 rw[Nat.pow_add,b52_eq]
def mantR(r:Nat):Nat:=if r<b52 then r else b52+r%b52
def exR(r:Nat):Nat:=r/b52-1
def vR(r:Nat):Nat:=mantR r * 2 ^ exR r
theorem vR_succ(r:Nat):vR (r+1)=vR r+2 ^ exR r:=by
 unfold vR mantR exR b52
 by_cases h:r<4503599627370496
 ·have e0:r/4503599627370496-1=0:=by omega
  rw[if_pos h,e0]
  by_cases h1:r+1<4503599627370496
  ·have e1:(r+1)/4503599627370496-1=0:=by omega
   rw[if_pos h1,e1];simp
  ·have e1:(r+1)/4503599627370496-1=0:=by omega
   rw[if_neg h1,e1];simp;omega
 ·rw[if_neg h,if_neg (by omega)]
  by_cases h1:(r+1)%4503599627370496=0
  ·have e1:(r+1)/4503599627370496-1=(r/4503599627370496-1)+1:=by omega
   have e2:r%4503599627370496=4503599627370495:=by omega
   rw[h1,e1,e2,Nat.pow_succ]
   generalize 2 ^ (r/4503599627370496-1)=p
   omega
  ·have e1:(r+1)/4503599627370496=r/4503599627370496:=by omega
   have e2:(r+1)%4503599627370496=r%4503599627370496+1:=by omega
   rw[e1,e2,←Nat.add_assoc,Nat.add_mul _ 1,Nat.one_mul]
theorem vR_mono{a b:Nat}(h:a<b):vR a<vR b:=by
 induction b with
 | zero=>omega
 | succ b ih =>
  rw[vR_succ]
  have:=Nat.two_pow_pos (exR b)
  by_cases e:a=b
  ·rw[e];omega
  ·have:=ih (by omega);omega
theorem vR_mono_le{a b:Nat}(h:a≤b):vR a≤vR b:=by
 rcases Nat.lt_or_ge a b with h1 | h1
 ·exact Nat.le_of_lt (vR_mono h1)
 ·rw[show a=b by omega];exact Nat.le_refl _
def Lo(P B lo:Nat):Prop:=B * vR lo≤P∧P<B * vR (lo+1)
theorem Lo.unique{P B a b:Nat}(h:Lo P B a)(h':Lo P B b):a=b:=by
 rcases Nat.lt_trichotomy a b with hl | hl | hl
 ·have:=Nat.mul_le_mul_left B (vR_mono_le (show a+1≤b by omega))
  have:=h.2;have:=h'.1;omega
 ·exact hl
 ·have:=Nat.mul_le_mul_left B (vR_mono_le (show b+1≤a by omega))
  have:=h'.2;have:=h.1;omega
def roundR(P B lo:Nat):Nat:=if B * (2 * vR lo+2 ^ exR lo)<2 * P∨(2 * P=B * (2 * vR lo+2 ^ exR lo)∧lo%2=1) then lo+1 else lo
def loN(n:Nat):Nat:=(n.log2+e22) * b52+n * b52/2 ^ n.log2
theorem q_bd{n:Nat}(h:n≠0):b52≤n * b52/2 ^ n.log2∧n * b52/2 ^ n.log2<b53:=by
 have h1:=Nat.log2_self_le h
 have h2:=Nat.lt_log2_self (n:=n)
 have hp:=Nat.two_pow_pos n.log2
 constructor
 ·rw[Nat.le_div_iff_mul_le hp,Nat.mul_comm]
  exact Nat.mul_le_mul_right _ h1
 ·rw[Nat.div_lt_iff_lt_mul hp]
  rw[Nat.pow_succ] at h2
  unfold b52 b53
  omega
theorem loN_parts{n:Nat}(h:n≠0):exR (loN n)=n.log2+e22∧mantR (loN n)=n * b52/2 ^ n.log2∧loN n%2=(n * b52/2 ^ n.log2)%2:=by
 obtain⟨h1,h2⟩:=q_bd h
 unfold exR mantR loN
 generalize n * b52/2 ^ n.log2=q at *
 generalize n.log2=L at *
 unfold b52 b53 at *
 refine⟨by omega,?_,by omega⟩
 rw[if_neg (by omega)]
 omega
theorem loN_lo{n:Nat}(h:n≠0):Lo (n * k74) 1 (loN n):=by
 obtain⟨h1,h2,-⟩:=loN_parts h
 have hp:=Nat.two_pow_pos n.log2
 have hd:=Nat.div_add_mod (n * b52) (2 ^ n.log2)
 have hm:=Nat.mod_lt (n * b52) hp
 have hk:=k22_pos
 have e:n * k74=n * b52 * k22:=by rw[k74_eq,Nat.mul_assoc]
 unfold Lo
 rw[vR_succ,Nat.one_mul,Nat.one_mul]
 unfold vR
 rw[h1,h2,e,Nat.pow_add,show 2 ^ e22=k22 from rfl]
 generalize n * b52/2 ^ n.log2=q at *
 generalize n * b52%2 ^ n.log2=t at *
 generalize n * b52=m at *
 generalize 2 ^ n.log2=g at *
 generalize k22=k at *
 have e2:q * (g * k)=(g * q) * k:=by rw[←Nat.mul_assoc,Nat.mul_comm q g]
 rw[e2,←Nat.add_mul]
 constructor
 ·exact Nat.mul_le_mul_right _ (by omega)
 ·exact Nat.mul_lt_mul_of_pos_right (by omega) hk
theorem cut_none(neg:Bool)(n:Nat):Ieee.Toward.even.cut neg n 0=n:=by
 unfold Ieee.Toward.cut
 simp[Nat.mod_one]
theorem cut_some(neg:Bool){n d:Nat}(h:d≤n.log2+2):Ieee.Toward.even.cut neg n d=n/2 ^ d+(decide (2 ^ d<2 * (n%2 ^ d)) || (2 ^ d==2 * (n%2 ^ d) && (n/2 ^ d)%2==1)).toNat:=by
 unfold Ieee.Toward.cut
 simp only[Nat.min_eq_left h,Nat.shiftLeft_eq,Nat.one_mul]
theorem round_exact{P lo:Nat}(h:P=vR lo):roundR P 1 lo=lo:=by
 unfold roundR
 have:=Nat.two_pow_pos (exR lo)
 rw[if_neg]
 omega
theorem min_small{L q:Nat}(hL:L<64)(hq:q≤b53):min ((L+e22) * b52+q) infR=(L+e22) * b52+q:=by
 have:=e22_eq
 unfold b52 b53 infR at *
 omega
theorem nearest_int(neg:Bool){n:Nat}(h:n≠0)(hn:n<2 ^ 64):Ieee.double.nearest neg n 0=Ieee.double.word neg (roundR (n * k74) 1 (loN n)):=by
 have hL:n.log2<64:=(Nat.log2_lt h).2 hn
 obtain⟨p1,p2,p3⟩:=loN_parts h
 obtain⟨b1,b2⟩:=q_bd h
 have hp:=Nat.two_pow_pos n.log2
 have hk:=k22_pos
 have e:n * k74=n * b52 * k22:=by rw[k74_eq,Nat.mul_assoc]
 unfold Ieee.Format.nearest
 rw[if_neg h]
 have hlast:max ((0:Int)+n.log2-Ieee.double.fractionBits) (-1074)=(n.log2:Int)-52:=by
  unfold Ieee.double
  simp only
  omega
 have hlp:Ieee.double.leastPlace = -1074:=by rfl
 have hbn:Ieee.double.binade=b52:=by rfl
 have hinf:Ieee.double.infRung=infR:=by rfl
 simp only[hlp,hlast,hbn,hinf]
 refine congrArg (Ieee.double.word neg) ?_
 have hT:((n.log2:Int)-52 - -1074).toNat=n.log2+e22:=by rw[e22_eq];omega
 rw[hT]
 by_cases h52:n.log2≤52
 ·have e1:((n.log2:Int)-52-0).toNat=0:=by omega
  have e2:((0:Int)-((n.log2:Int)-52)).toNat=52-n.log2:=by omega
  rw[e1,e2,cut_none,Nat.shiftLeft_eq]
  have eb:b52=2 ^ (52-n.log2) * 2 ^ n.log2:=by rw[←Nat.pow_add,show 52-n.log2+n.log2=52 by omega];rfl
  have eq:n * b52/2 ^ n.log2=n * 2 ^ (52-n.log2):=by
   rw[eb,←Nat.mul_assoc,Nat.mul_div_cancel _ hp]
  have ev:n * k74=vR (loN n):=by
   unfold vR
   rw[p1,p2,eq,e,eb,Nat.pow_add,show 2 ^ e22=k22 from rfl]
   rw[←Nat.mul_assoc,←Nat.mul_assoc]
  rw[round_exact ev]
  unfold loN
  rw[eq] at b1 b2 ⊢
  exact min_small hL (Nat.le_of_lt b2)
 ·have hLL:n.log2=(n.log2-52)+52:=by omega
  have e1:((n.log2:Int)-52-0).toNat=n.log2-52:=by omega
  have e2:((0:Int)-((n.log2:Int)-52)).toNat=0:=by omega
  rw[e1,e2,Nat.shiftLeft_zero,cut_some neg (by omega)]
  have hg:=Nat.two_pow_pos (n.log2-52)
  have eL:2 ^ n.log2=2 ^ (n.log2-52) * b52:=by
   conv=>lhs;rw[hLL]
   rw[Nat.pow_add];rfl
  have eq:n * b52/2 ^ n.log2=n/2 ^ (n.log2-52):=by
   rw[eL]
   exact Nat.mul_div_mul_right _ _ (by decide)
  have hdm:=Nat.div_add_mod n (2 ^ (n.log2-52))
  have hml:=Nat.mod_lt n hg
  have hr:roundR (n * k74) 1 (loN n)=loN n+(decide (2 ^ (n.log2-52)<2 * (n%2 ^ (n.log2-52))) || (2 ^ (n.log2-52)==2 * (n%2 ^ (n.log2-52)) && (n/2 ^ (n.log2-52))%2==1)).toNat:=by
   unfold roundR vR
   rw[p1,p2,p3,eq,e,Nat.pow_add,eL,show 2 ^ e22=k22 from rfl]
   generalize n/2 ^ (n.log2-52)=q at *
   generalize n%2 ^ (n.log2-52)=t at *
   generalize 2 ^ (n.log2-52)=g at *
   generalize k22=k at *
   have f1:1 * (2 * (q * (g * b52 * k))+g * b52 * k)=(2 * (g * q)+g) * (b52 * k):=by
    rw[Nat.one_mul,Nat.add_mul,Nat.mul_assoc g b52 k,Nat.mul_assoc 2 (g * q),←Nat.mul_assoc q g,Nat.mul_comm q g]
   have f2:2 * (n * b52 * k)=(2 * n) * (b52 * k):=by rw[Nat.mul_assoc n,Nat.mul_assoc 2]
   have hbk:0<b52 * k:=Nat.mul_pos (by decide) hk
   rw[f1,f2]
   generalize b52 * k=j at *
   have g1:(2 * (g * q)+g) * j<2 * n * j ↔ g<2 * t:=by
    rw[Nat.mul_lt_mul_right hbk];omega
   have g2:2 * n * j=(2 * (g * q)+g) * j ↔ g=2 * t:=by
    rw[Nat.mul_right_cancel_iff hbk];omega
   simp only[g1,g2]
   by_cases c1:g<2 * t
   ·simp[c1]
   ·by_cases c2:g=2 * t
    ·by_cases c3:q%2=1
     ·simp[c2,c3]
     ·have:¬(g<2 * t∨g=2 * t∧q%2=1):=by omega
      rw[if_neg this]
      simp[c2,c3]
    ·have:¬(g<2 * t∨g=2 * t∧q%2=1):=by omega
     rw[if_neg this]
     simp[c1,c2]
  rw[hr]
  unfold loN
  rw[eq] at b1 b2 ⊢
  generalize (decide (2 ^ (n.log2-52)<2 * (n%2 ^ (n.log2-52))) || (2 ^ (n.log2-52)==2 * (n%2 ^ (n.log2-52)) && (n/2 ^ (n.log2-52))%2==1))=bb at *
  have hb1:=Bool.toNat_le bb
  rw[Nat.add_assoc]
  exact min_small hL (by unfold b53 at b2 ⊢;omega)
def rne(X D:Nat):Nat:=if D<2 * (X%D)∨(2 * (X%D)=D∧X/D%2=1) then X/D+1 else X/D
theorem or_one(F:Nat):F ||| 1=F/2 * 2+1:=by
 have h:=Nat.or_mod_two_eq_one (a:=F) (b:=1)
 have h1:(F ||| 1)%2=1:=by
  rw[Nat.or_mod_two_eq_one];right;rfl
 have h2:(F ||| 1)/2=F/2:=by
  rw[Nat.or_div_two]
  simp
 omega
theorem un_parts(X W:Nat):un X W/2=X/W/2∧(un X W%2=1 ↔ (X/W%2=1∨X%W≠0)):=by
 unfold un
 by_cases h:X%W=0
 ·rw[if_pos h,Nat.or_zero]
  exact⟨rfl,by omega⟩
 ·rw[if_neg h,or_one]
  exact⟨by omega,by omega⟩
theorem un_round(X W:Nat)(hW:0<W):(un X W+1+un X W/4%2)/4=rne X (4 * W):=by
 obtain⟨h1,h2⟩:=un_parts X W
 have hdm:=Nat.div_add_mod X W
 have hml:=Nat.mod_lt X hW
 generalize un X W=u at *
 obtain⟨F,hF⟩:∃ F,F=X/W:=⟨_,rfl⟩
 obtain⟨r,hr⟩:∃ r,r=X%W:=⟨_,rfl⟩
 rw[←hF] at h1 h2 hdm
 rw[←hr] at h2 hdm hml
 have hq:X/(4 * W)=F/4:=by rw[Nat.mul_comm,←Nat.div_div_eq_div_mul,←hF]
 have hm:X%(4 * W)=F%4 * W+r:=by
  have e:X=W * (4 * (F/4)+F%4)+r:=by rw[Nat.div_add_mod];omega
  have e2:X=4 * W * (F/4)+(F%4 * W+r):=by
   rw[e,Nat.mul_add,←Nat.mul_assoc,Nat.mul_comm W 4,Nat.mul_comm W (F%4)];omega
  rw[e2,Nat.mul_add_mod]
  refine Nat.mod_eq_of_lt ?_
  have h4:F%4<4:=Nat.mod_lt _ (by decide)
  have:=Nat.mul_le_mul_right W (show F%4≤3 by omega)
  omega
 unfold rne
 rw[hq,hm]
 clear hq hm hF hr hdm
 have h4:F%4<4:=Nat.mod_lt _ (by decide)
 rcases (show F%4=0∨F%4=1∨F%4=2∨F%4=3 by omega) with c | c | c | c
 ·rw[c,Nat.zero_mul,Nat.zero_add,if_neg (by omega)]
  by_cases hr0:r=0 <;> omega
 ·rw[c,Nat.one_mul,if_neg (by omega)]
  omega
 ·rw[c]
  by_cases hr0:r=0
  ·by_cases ho:F/4%2=1
   ·rw[if_pos (by omega)];omega
   ·rw[if_neg (by omega)];omega
  ·rw[if_pos (by omega)];omega
 ·rw[c,if_pos (by omega)];omega
theorem un_half(X W:Nat)(hW:0<W):(un X W/2) ||| (un X W%2)=un X (2 * W):=by
 obtain⟨h1,h2⟩:=un_parts X W
 have hdm:=Nat.div_add_mod X W
 have hml:=Nat.mod_lt X hW
 have hq:X/(2 * W)=X/W/2:=by rw[Nat.mul_comm,←Nat.div_div_eq_div_mul]
 have hm:X%(2 * W)=X/W%2 * W+X%W:=by
  generalize hF:X/W=F at *
  generalize hr:X%W=r at *
  have e2:X=2 * W * (F/2)+(F%2 * W+r):=by
   have:F=2 * (F/2)+F%2:=(Nat.div_add_mod F 2).symm
   rw[←hdm]
   conv=>lhs;rw[this,Nat.mul_add,←Nat.mul_assoc,Nat.mul_comm W 2,Nat.mul_comm W (F%2)]
   omega
  rw[e2,Nat.mul_add_mod]
  refine Nat.mod_eq_of_lt ?_
  have:=Nat.mul_le_mul_right W (show F%2≤1 by omega)
  omega
 conv=>rhs;unfold un
 rw[hq,hm,h1]
 by_cases hs:X/W%2=1∨X%W≠0
 ·rw[h2.2 hs,if_neg]
  rcases hs with hs | hs
  ·rw[hs];omega
  ·omega
 ·have:un X W%2=0:=by
   have:¬un X W%2=1:=fun e=>hs (h2.1 e)
   omega
  rw[this,if_pos]
  have:X/W%2=0:=by omega
  rw[this];omega
theorem rung_of{P Bn X D k q:Nat}(hD:0<D)(hBn:0<Bn)(hid:P * D=X * Bn * 2 ^ k)(hq:q=X/D)(hm:mantR (q+k * b52)=q)(he:exR (q+k * b52)=k)(hb:q%2=(q+k * b52)%2) :
  Lo P Bn (q+k * b52)∧roundR P Bn (q+k * b52)=rne X D+k * b52:=by
 have hdm:=Nat.div_add_mod X D
 have hml:=Nat.mod_lt X hD
 rw[←hq] at hdm
 have hv:vR (q+k * b52)=q * 2 ^ k:=by unfold vR;rw[hm,he]
 have hkp:=Nat.two_pow_pos k
 have hCp:0<Bn * 2 ^ k:=Nat.mul_pos hBn hkp
 have hid2:P * D=X * (Bn * 2 ^ k):=by rw[hid,Nat.mul_assoc]
 have e1:Bn * (q * 2 ^ k)=q * (Bn * 2 ^ k):=by rw[←Nat.mul_assoc,Nat.mul_comm Bn q,Nat.mul_assoc]
 have e2:Bn * (q * 2 ^ k+2 ^ k)=(q+1) * (Bn * 2 ^ k):=by rw[Nat.mul_add,e1,Nat.add_mul,Nat.one_mul]
 have e3:Bn * (2 * (q * 2 ^ k)+2 ^ k)=(2 * q+1) * (Bn * 2 ^ k):=by
  rw[Nat.mul_add,Nat.add_mul,Nat.one_mul,Nat.mul_assoc 2 q,←e1]
  rw[←Nat.mul_assoc,Nat.mul_comm Bn 2,Nat.mul_assoc]
 generalize Bn * 2 ^ k=C at *
 have hXq:X=D * q+X%D:=by omega
 constructor
 ·unfold Lo
  rw[vR_succ,hv,he,e1,e2]
  constructor
  ·have:q * C * D≤P * D:=by
    rw[hid2,Nat.mul_right_comm]
    refine Nat.mul_le_mul_right _ ?_
    rw[Nat.mul_comm];omega
   exact Nat.le_of_mul_le_mul_right this hD
  ·have:P * D<(q+1) * C * D:=by
    rw[hid2,Nat.mul_right_comm]
    refine Nat.mul_lt_mul_of_pos_right ?_ hCp
    rw[Nat.add_mul,Nat.one_mul,Nat.mul_comm];omega
   exact Nat.lt_of_mul_lt_mul_right this
 ·unfold roundR rne
  rw[hv,he,e3,←hb,←hq]
  have k1:(2 * q+1) * C<2 * P ↔ D<2 * (X%D):=by
   have a1:(2 * q+1) * C<2 * P ↔ (2 * q+1) * C * D<2 * P * D:=(Nat.mul_lt_mul_right hD).symm
   have a2:2 * P * D=2 * X * C:=by rw[Nat.mul_assoc,hid2,Nat.mul_assoc]
   have a3:(2 * q+1) * C * D=(2 * q+1) * D * C:=Nat.mul_right_comm _ _ _
   rw[a1,a2,a3,Nat.mul_lt_mul_right hCp,Nat.add_mul,Nat.one_mul,Nat.mul_assoc,Nat.mul_comm q D]
   omega
  have k2:2 * P=(2 * q+1) * C ↔ 2 * (X%D)=D:=by
   have a1:2 * P=(2 * q+1) * C ↔ 2 * P * D=(2 * q+1) * C * D:=(Nat.mul_right_cancel_iff hD).symm
   have a2:2 * P * D=2 * X * C:=by rw[Nat.mul_assoc,hid2,Nat.mul_assoc]
   have a3:(2 * q+1) * C * D=(2 * q+1) * D * C:=Nat.mul_right_comm _ _ _
   rw[a1,a2,a3,Nat.mul_right_cancel_iff hCp,Nat.add_mul,Nat.one_mul,Nat.mul_assoc,Nat.mul_comm q D]
   omega
  simp only[k1,k2]
  split <;> omega
def midR(r:Nat):Nat:=2 * vR r+2 ^ exR r
def InR(P B a:Nat):Prop:=(B * midR (a-1)<2 * P∨(B * midR (a-1)=2 * P∧a%2=0))∧(2 * P<B * midR a∨(2 * P=B * midR a∧a%2=0))
end Go.Proofs.YtdogjghalplohaaGreatDoor.mem
