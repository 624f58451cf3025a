import Derived.Test.YtepmbmbnlmbhhaaGreatPla15
set_option linter.unusedVariables false
set_option linter.unusedSimpArgs false
set_option maxHeartbeats 16000000
set_option maxRecDepth 8000
open Go.Proofs.Tryz
namespace Go.Proofs.YtepmbmbnlmbhhaaGreat
open Go.ChangeShapes Go.WideShapes Go.ChangeAt Go.RowKit
namespace lx
open ints (Hi uh hexV zaB)
open mem
def shV(c:Int):Int:=if idxE c<0 then -1 else meanZ c
abbrev shN:ByteArray:=⟨#[34,92,47,98,102,110,114,116]⟩
abbrev shM:ByteArray:=⟨#[34,92,47,8,12,10,13,9]⟩
theorem znb(c:Int)(k:Nat)(h:k<8)(e:((shN[k]'(by exact h)).toNat:Int)=c):shV c=((shM[k]'(by exact h)).toNat:Int):=by
 have:∀ k:Fin 8,shV ((shN[k.val]'(by exact k.isLt)).toNat:Int)=((shM[k.val]'(by exact k.isLt)).toNat:Int):=by decide +kernel
 rw[←e];exact this ⟨k,h⟩
theorem zlQ(c:Int)(h:∀ k (hk:k<8),((shN[k]'(by exact hk)).toNat:Int)≠c):shV c = -1:=by
 unfold shV
 by_cases hi:idxE c<0
 ·rw[if_pos hi]
 ·exfalso
  rcases zcu c hi with rfl | rfl | rfl | rfl | rfl | rfl | rfl | rfl
  ·exact h 0 (by decide) rfl
  ·exact h 1 (by decide) rfl
  ·exact h 3 (by decide) rfl
  ·exact h 4 (by decide) rfl
  ·exact h 5 (by decide) rfl
  ·exact h 6 (by decide) rfl
  ·exact h 7 (by decide) rfl
  ·exact h 2 (by decide) rfl
theorem zjT(c:Int)(w:World) :
  Calls prog 182 #[.int .i32 c] w fun e w'=>e = .returned (.int .i32 (shV c))∧w'=w:=by
 obtain⟨S,hS,sS,vS⟩:∃ S:ByteArray,Hid (S=⟨#[34,92,47,98,102,110,114,116]⟩)∧S.size=8∧∀ k (h:k<S.size) (h8:k<8),S[k].toNat=(shN[k]'(by exact h8)).toNat:=⟨shN,rfl,rfl,fun k h h8=>rfl⟩
 obtain⟨L,hL,sL,vL⟩:∃ L:ByteArray,Hid (L=⟨#[34,92,47,8,12,10,13,9]⟩)∧L.size=8∧∀ k (h:k<L.size) (h8:k<8),L[k].toNat=(shM[k]'(by exact h8)).toNat:=⟨shM,rfl,rfl,fun k h h8=>rfl⟩
 have VS:=Hi vS;have VL:=Hi vL;have zS:8≤S.size:=by omega
 have zL:8≤L.size:=by omega
 have zS8:=Hi sS;have zSi:(S.size:Int)=8:=by omega
 clear vS vL sL sS
 go_enter func182,ntmps182
 go_wp2
 rw[←uh hS,←uh hL]
 go_loop [5] (fun i=>∃ k:Nat,k≤8∧i = .int .i64 k∧Hid (∀ j (hj:j<8),j<k→((shN[j]'(by exact hj)).toNat:Int)≠c)) (fun i=>8-(intOf i).toNat)
 case atStart=>exact⟨0,by omega,rfl,Hi (fun j hj h=>by omega)⟩
 case round =>
  obtain⟨k,hk,rfl,hv⟩:=hrel
  by_cases hlt:k<8
  ·have kS:k<S.size:=by omega
   have kL:k<L.size:=by omega
   have kk:(k:Int)<(S.size:Int):=by omega
   by_cases e1:(S[k].toNat:Int)=c
   ·have hy:=Hi (show shV c=(L[k].toNat:Int) from by
     rw[znb c k hlt (by rw[←uh VS k kS hlt];exact e1),uh VL k kL hlt])
    have b1:(wrap32 (S[k].toNat:Int)==c)=true:=by rw[zaB];simpa using e1
    clear e1
    go_wp2
    go_ret
    rw[uh hy];exact⟨by first | rfl | (rw[zaB];rfl),rfl⟩
   ·have b1:(wrap32 (S[k].toNat:Int)==c)=false:=by rw[zaB];simpa using e1
    have hv2:=Hi (show ∀ j (hj:j<8),j<k+1→((shN[j]'(by exact hj)).toNat:Int)≠c from fun j hj h=>by
     by_cases hjk:j<k
     ·exact uh hv j hj hjk
     ·obtain rfl:j=k:=by omega
      rw[←uh VS j kS hj]
      exact e1)
    clear e1
    go_wp2
    go_round
    case rel=>exact⟨k+1,by omega,by go_num,hv2⟩
    case measure=>simp[intOf];omega
  ·have hy:=Hi (show shV c = -1 from zlQ c (fun j hj=>uh hv j hj (by omega)))
   have kk:¬(k:Int)<(S.size:Int):=by omega
   go_wp2
   go_ret
   rw[uh hy];exact⟨rfl,rfl⟩
def plB(c:Int):Bool:=soB c && decide (c≠34) && decide (c≠92) && decide (c≠10) && decide (c≠13)
theorem zjB(c:Int)(w:World):Calls prog 181 #[.int .i32 c] w fun e w'=>e = .returned (.bool (plB c))∧w'=w:=by
 have S:=Hi (fun W=>zeb c W)
 unfold plB
 cases hs:soB c with
 | false =>
  rw[hs] at S;clear hs
  go_enter func181,ntmps181
  go_wp2_with fail
  refine (uh S _).mono ?_
  rintro e w2 ⟨rfl,rfl⟩
  go_wp2
  go_ret
  exact⟨by simp,rfl⟩
 | true =>
  rw[hs] at S;clear hs
  by_cases h1:c=34
  ·subst h1
   go_enter func181,ntmps181
   go_wp2_with fail
   refine (uh S _).mono ?_
   rintro e w2 ⟨rfl,rfl⟩
   go_wp2
   go_ret
   exact⟨by simp,rfl⟩
  have b1:(c != 34)=true:=by simpa using h1
  by_cases h2:c=92
  ·subst h2
   go_enter func181,ntmps181
   go_wp2_with fail
   refine (uh S _).mono ?_
   rintro e w2 ⟨rfl,rfl⟩
   go_wp2
   go_ret
   exact⟨by simp,rfl⟩
  have b2:(c != 92)=true:=by simpa using h2
  by_cases h3:c=10
  ·subst h3
   go_enter func181,ntmps181
   go_wp2_with fail
   refine (uh S _).mono ?_
   rintro e w2 ⟨rfl,rfl⟩
   go_wp2
   go_ret
   exact⟨by simp,rfl⟩
  have b3:(c != 10)=true:=by simpa using h3
  by_cases h4:c=13
  ·subst h4
   go_enter func181,ntmps181
   go_wp2_with fail
   refine (uh S _).mono ?_
   rintro e w2 ⟨rfl,rfl⟩
   go_wp2
   go_ret
   exact⟨by simp,rfl⟩
  have b4:(c != 13)=true:=by simpa using h4
  have HA:=Hi (an h1 (an h2 (an h3 h4)));clear h1 h2 h3 h4
  go_enter func181,ntmps181
  go_wp2_with fail
  refine (uh S _).mono ?_
  rintro e w2 ⟨rfl,rfl⟩
  go_wp2
  go_ret
  obtain⟨h1,h2,h3,h4⟩:=uh HA;exact⟨by simp[h1,h2,h3,h4],rfl⟩
def hxv(l:List Int)(i:Nat):Nat→Int
 | 0=>0
 | m+1=>hxv l i m * 16+hexV (l.getD (i+2+m) 0)
theorem zc9(l:List Int)(i j:Nat):(l.drop i).getD j 0=l.getD (i+j) 0:=by simp[List.getD]
theorem zkY(c:Int):-1≤hexV c:=by
 unfold hexV
 repeat' split
 all_goals omega
theorem zkP(l:List Int)(i:Nat)(h6:i+6≤l.length)(h0:l.getD i 0=92)(h1:l.getD (i+1) 0=117)(hd:∀ j,j<4→0≤hexV (l.getD (i+2+j) 0)):codeZ (l.drop i)=hxv l i 4:=by
 unfold codeZ;simp only[zc9,List.length_drop,Nat.add_zero];rw[if_neg (by rintro (e | e | e);omega;exact e h0;exact e h1)]
 have d0:=hd 0 (by omega)
 have d1:=hd 1 (by omega)
 have d2:=hd 2 (by omega)
 have d3:=hd 3 (by omega)
 rw[show i+2+0=i+2 by omega] at d0
 rw[show i+2+1=i+3 by omega] at d1
 rw[show i+2+2=i+4 by omega] at d2
 rw[show i+2+3=i+5 by omega] at d3
 rw[if_neg (by omega)]
 simp only[hxv];rw[show i+2+0=i+2 by omega,show i+2+1=i+3 by omega,show i+2+2=i+4 by omega,show i+2+3=i+5 by omega]
 simp
theorem zkQ(l:List Int)(i m:Nat)(hm:m<4)(hd:hexV (l.getD (i+2+m) 0)<0):codeZ (l.drop i) = -1:=by
 unfold codeZ;simp only[zc9,List.length_drop,Nat.add_zero]
 split
 ·rfl
 ·rw[if_pos]
  have:m=0∨m=1∨m=2∨m=3:=by omega
  rcases this with rfl | rfl | rfl | rfl
  ·exact .inl hd
  ·exact .inr (.inl hd)
  ·exact .inr (.inr (.inl hd))
  ·exact .inr (.inr (.inr hd))
theorem zdQ(l:List Int)(i:Nat)(h:l.length<i+6∨l.getD i 0≠92∨l.getD (i+1) 0≠117):codeZ (l.drop i) = -1:=by
 unfold codeZ;simp only[zc9,List.length_drop,Nat.add_zero];rw[if_pos]
 rcases h with h | h | h
 ·exact .inl (by omega)
 ·exact .inr (.inl h)
 ·exact .inr (.inr h)
theorem zl2(a:Option Addr)(n c:Nat)(l:List Int)(i:Nat)(w:World)(h:Row .i32 w a n c l)(hn:n≤1099511627778)(hi:i≤n) :
  Calls prog 183 #[.slice a n c,.int .i64 (i:Int)] w fun e w'=>e = .returned (.int .i32 (codeZ (l.drop i)))∧Below w.heap.size w w':=by
 have HL:=Hi h.len;obtain⟨R,hR⟩:∃ R,R=codeZ (l.drop i):=⟨_,rfl⟩;rw[←hR];have HR:=Hi hR;clear hR
 by_cases h6:i+6≤n
 ·rcases h.at_ with h0 | ⟨b,off,rfl,hbw,hcell⟩
  ·omega
  have HC:=Hi hcell;have c0:=hcell i (by omega)
  have c1:=hcell (i+1) (by omega)
  have H0:=Hi (show l.length<i+6∨l.getD i 0≠92∨l.getD (i+1) 0≠117→R = -1 from fun e=>by rw[uh HR];exact zdQ l i e)
  have H1:=Hi (show l.getD i 0=92→l.getD (i+1) 0=117→(∀ j,j<4→0≤hexV (l.getD (i+2+j) 0))→R=hxv l i 4 from fun e0 e1 e2=>by rw[uh HR];exact zkP l i (by rw[uh HL];exact h6) e0 e1 e2)
  have i6:¬(n:Int)<(i:Int)+6:=by omega
  obtain⟨x0,hx0⟩:∃ x,x=l.getD i 0:=⟨_,rfl⟩;obtain⟨x1,hx1⟩:∃ x,x=l.getD (i+1) 0:=⟨_,rfl⟩;rw[←hx0] at c0 H0 H1;rw[←hx1] at c1 H0 H1;clear hx0 hx1 hcell
  by_cases e0:x0=92
  ·by_cases e1:x1=117
   ·have H2:=Hi (fun e2=>uh H1 e0 e1 e2)
    subst e0 e1;clear H0 H1
    go_enter func183,ntmps183
    go_wp2_with fail
    go_loopw [5,6] (fun nv kv wr=>∃ (m:Nat) (V:Int),m≤4∧nv = .int .i32 V∧kv = .int .i64 ((i+2+m:Nat):Int)∧Hid (V=hxv l i m)∧0≤V∧(m=0∧V<1∨m=1∧V<16∨m=2∧V<256∨m=3∧V<4096∨m=4∧V<65536)∧Hid (∀ j,j<m→0≤hexV (l.getD (i+2+j) 0))∧Below w.heap.size w wr) (fun _ k _=>i+6-(intOf k).toNat)
    case atStart=>exact⟨0,0,by omega,rfl,by go_num,Hi rfl,by omega,by omega,Hi (fun j hj=>by omega),Below.refl _ _⟩
    case round =>
     obtain⟨m,V,hm,rfl,rfl,hV,v0,vb,hall,hbel⟩:=hrel
     by_cases hlt:m<4
     ·have d0:=(hbel.cell (p:=⟨b,off+(i+2+m),none⟩) hbw).trans (uh HC (i+2+m) (by omega))
      have HXx:=Hi (zkY (l.getD (i+2+m) 0));have HXy:=Hi (zbt (l.getD (i+2+m) 0));have HNo:=Hi (show hexV (l.getD (i+2+m) 0)<0→R = -1 from fun e=>by rw[uh HR];exact zkQ l i m hlt e)
      have HV2:=Hi (show hxv l i (m+1)=V * 16+hexV (l.getD (i+2+m) 0) from by rw[uh hV];rfl)
      have HA2:=Hi (show 0≤hexV (l.getD (i+2+m) 0)→∀ j,j<m+1→0≤hexV (l.getD (i+2+j) 0) from fun e j hj=>by
       by_cases hjm:j<m
       ·exact uh hall j hjm
       ·obtain rfl:j=m:=by omega
        exact e)
      have HX:=Hi (fun W=>ints.zjL (l.getD (i+2+m) 0) W)
      obtain⟨y,hy⟩:∃ y,y=l.getD (i+2+m) 0:=⟨_,rfl⟩;rw[←hy] at d0 HX HXx HXy HNo HV2 HA2;clear hy;obtain⟨D,hD⟩:∃ D,D=hexV y:=⟨_,rfl⟩;rw[←hD] at HX HXx HXy HNo HV2 HA2;clear hD;have k1:((i+2+m:Nat):Int)<(i:Int)+6:=by omega
      have k2:((i+2+m:Nat):Int)<(n:Int):=by omega
      obtain⟨K,hK⟩:∃ K,K=i+2+m:=⟨_,rfl⟩;rw[←hK] at d0 k1 k2 ⊢;have HK:=Hi hK;clear hK;have vb2:V<4096:=by omega
      have Hvb:=Hi vb;clear vb
      by_cases hD0:D<0
      ·have hF:=Hi (uh HNo hD0)
       clear HNo HV2 HA2
       go_wp2_with fail
       refine (uh HX _).mono ?_
       rintro e w2 ⟨rfl,rfl⟩
       go_wp2_with fail
       go_ret
       exact⟨by rw[uh hF];rfl,hbel⟩
      ·have hD15:=uh HXy
       have hA3:=Hi (uh HA2 (by omega))
       clear HNo HA2;have wd:wrap32 D=D:=by unfold wrap32;omega
       have wm:wrap32 (V * 16)=V * 16:=by unfold wrap32;omega
       have wa:wrap32 (V * 16+D)=V * 16+D:=by unfold wrap32;omega
       go_wp2_with fail
       refine (uh HX _).mono ?_
       rintro e w2 ⟨rfl,rfl⟩
       go_wp2_with fail
       refine⟨⟨m+1,V * 16+D,by omega,by first | rfl | simp only[wd,wm,wa],by rw[show i+2+(m+1)=K+1 from by have:=uh HK;omega];go_num,Hi (uh HV2).symm,by omega,by have:=uh Hvb;omega,hA3,hbel⟩,by have:=uh HK;simp only[intOf];omega⟩
     ·obtain rfl:m=4:=by omega
      have hF:=Hi (show R=V from by rw[uh H2 (uh hall),uh hV])
      have k1:¬((i+2+4:Nat):Int)<(i:Int)+6:=by omega
      obtain⟨K,hK⟩:∃ K,K=i+2+4:=⟨_,rfl⟩;rw[←hK] at k1 ⊢;clear hK
      go_wp2_with fail
      go_ret
      exact⟨by rw[uh hF];rfl,hbel⟩
   ·have hF:=Hi (uh H0 (.inr (.inr e1)))
    have b1:(x1 != 117)=true:=by simpa using e1
    subst e0;clear H0 H1 e1
    go_enter func183,ntmps183
    go_wp2_with fail
    go_ret
    exact⟨by rw[uh hF];rfl,Below.refl _ _⟩
  ·have hF:=Hi (uh H0 (.inr (.inl e0)))
   have b0:(x0 != 92)=true:=by simpa using e0
   clear H0 H1 e0
   go_enter func183,ntmps183
   go_wp2_with fail
   go_ret
   exact⟨by rw[uh hF];rfl,Below.refl _ _⟩
 ·have i6:(n:Int)<(i:Int)+6:=by omega
  have hF:=Hi (show R = -1 from by rw[uh HR];exact zdQ l i (.inl (by rw[uh HL];omega)))
  go_enter func183,ntmps183
  go_wp2_with fail
  go_ret
  exact⟨by rw[uh hF];rfl,Below.refl _ _⟩
open ints (Hi uh hexV)
theorem zlP(c:Int)(h:0≤shV c):idxE c<0→False:=fun e=>by unfold shV at h;rw[if_pos e] at h;omega
theorem zmw(l:List Int)(i:Nat)(h:i+1<l.length):escZ (l.drop i)=(if l.getD (i+1) 0=117 then cdZ (l.drop i) else if idxE (l.getD (i+1) 0)<0 then (0,0) else (meanZ (l.getD (i+1) 0),2)):=by
 unfold escZ;rw[if_neg (by rw[List.length_drop];omega),zc9]
theorem zmg(l:List Int)(i:Nat)(h:l.getD (i+1) 0≠117):cdZ (l.drop i)=(0,0):=by
 unfold cdZ;rw[zdQ l i (.inr (.inr h)),if_pos (by decide)]
theorem zmU(l:List Int)(i:Nat):pceZ (l.drop i)=(if l.getD i 0=92 then escZ (l.drop i) else if l.getD i 0=34∨l.getD i 0=10∨l.getD i 0=13∨soB (l.getD i 0)=false then (0,0) else (l.getD i 0,1)):=by
 unfold pceZ;rw[zc9,Nat.add_zero]
theorem zik(a:Option Addr)(n c:Nat)(l:List Int)(i:Nat)(w:World)(h:Row .i32 w a n c l)(hn:n≤1099511627778)(hi:i<n) :
  Calls prog 169 #[.slice a n c,.int .i64 (i:Int)] w fun e w'=>e = .returned (.tuple #[.int .i32 (pceZ (l.drop i)).1,.int .i64 ((pceZ (l.drop i)).2:Nat)])∧Below w.heap.size w w':=by
 have HL:=Hi h.len;have hP:=Hi (zmU l i);have hE:=Hi (fun (h:i+1<n)=>zmw l i (by rw[uh HL];exact h))
 have U:=Hi (fun W (hb:Below w.heap.size w W) (k:Nat) (hk:k≤n)=>zl2 a n c l k W (h.below hb) hn hk)
 obtain⟨R,hR⟩:∃ R,R=pceZ (l.drop i):=⟨_,rfl⟩;rw[←hR] at hP ⊢;clear hR
 rcases h.at_ with h0 | ⟨b,off,rfl,hbw,hcell⟩
 ·omega
 have HC:=Hi hcell;have c0:=hcell i hi;have i1:(i:Int)<(n:Int):=by omega
 obtain⟨x,hx⟩:∃ x,x=l.getD i 0:=⟨_,rfl⟩;rw[←hx] at c0 hP;have P:=Hi (fun W=>zjB x W)
 clear hx hcell
 cases hpl:plB x with
 | true =>
  have hF:=Hi (show R=(x,1) from by
   unfold plB at hpl;simp only[Bool.and_eq_true,decide_eq_true_eq] at hpl;obtain⟨⟨⟨⟨p1,p2⟩,p3⟩,p4⟩,p5⟩:=hpl
   rw[uh hP,if_neg p3,if_neg (by rintro (e | e | e | e);exact p2 e;exact p4 e;exact p5 e;rw[p1] at e;cases e)])
  rw[hpl] at P;clear hpl hP hE U
  go_enter func169,ntmps169
  go_wp2_with fail
  refine (uh P _).mono ?_
  rintro e w2 ⟨rfl,rfl⟩
  go_wp2_with fail
  go_ret2
  exact⟨by rw[uh hF];rfl,Below.refl _ _⟩
 | false =>
  by_cases h92:x=92
  ·have hP2:=Hi (show R=escZ (l.drop i) from by rw[uh hP,if_pos h92])
   subst h92;rw[hpl] at P;clear hpl hP
   by_cases hi1:i+1<n
   ·have hE2:=Hi (uh hE hi1)
    rw[←uh hP2] at hE2;have c1:=uh HC (i+1) hi1;have i2:(i:Int)+1<(n:Int):=by omega
    have H117:=Hi (zmg l i);obtain⟨y,hy⟩:∃ y,y=l.getD (i+1) 0:=⟨_,rfl⟩;rw[←hy] at c1 hE2 H117;have S:=Hi (fun W=>zjT y W)
    clear hy hP2 hE
    by_cases hsh:0≤shV y
    ·have hF:=Hi (show R=(shV y,2) from by
      have hx:=zlP y hsh;have h117:y≠117:=fun e=>hx (by rw[e];decide)
      rw[uh hE2,if_neg h117,if_neg hx];unfold shV
      rw[if_neg hx])
     obtain⟨V,hV⟩:∃ V,V=shV y:=⟨_,rfl⟩;rw[←hV] at hsh hF S;clear hV hE2 U
     go_enter func169,ntmps169
     go_wp2_with fail
     refine (uh P _).mono ?_
     rintro e w2 ⟨rfl,rfl⟩
     go_wp2_with fail
     refine (uh S _).mono ?_
     rintro e w3 ⟨rfl,rfl⟩
     go_wp2_with fail
     go_ret2
     exact⟨by rw[uh hF];rfl,Below.refl _ _⟩
    ·have hE3:=Hi (show R=cdZ (l.drop i) from by
      have hx:idxE y<0:=by
       rcases Int.lt_or_le (idxE y) 0 with e | e
       ·exact e
       ·exfalso
        apply hsh
        have e2:¬idxE y<0:=by omega
        unfold shV;rw[if_neg e2]
        rcases zcu y e2 with rfl | rfl | rfl | rfl | rfl | rfl | rfl | rfl <;> decide
      rw[uh hE2]
      by_cases h117:y=117
      ·rw[if_pos h117]
      ·rw[if_neg h117,if_pos hx,uh H117 h117])
     have U0:=Hi (fun W hb=>uh U W hb i (by omega))
     have HQ:=Hi (show cdZ (l.drop i)=(if codeZ (l.drop i)<0 then (0,0) else if ¬(55296≤codeZ (l.drop i)∧codeZ (l.drop i)≤57343) then (codeZ (l.drop i),6) else if 55296≤codeZ (l.drop i)∧codeZ (l.drop i)≤56319∧56320≤codeZ (l.drop (i+6))∧codeZ (l.drop (i+6))≤57343 then (65536+(codeZ (l.drop i)-55296) * 1024+(codeZ (l.drop (i+6))-56320),12) else (0,0)) from by
      unfold cdZ
      rw[List.drop_drop])
     rw[←uh hE3] at HQ;have H6:=Hi (show 0≤codeZ (l.drop i)→i+6≤n from fun e=>by have:=zb5 (l.drop i) e;rw[List.length_drop,uh HL] at this;omega)
     obtain⟨V,hV⟩:∃ V,V=shV y:=⟨_,rfl⟩;rw[←hV] at hsh S;have U6:=Hi (fun W hb (h6:i+6≤n)=>uh U W hb (i+6) h6)
     obtain⟨L6,hL6⟩:∃ L6,L6=codeZ (l.drop (i+6)):=⟨_,rfl⟩;rw[←hL6] at HQ U6;obtain⟨T,hT⟩:∃ T,T=codeZ (l.drop i):=⟨_,rfl⟩;rw[←hT] at HQ U0 H6;clear hV hE2 hE3 H117 U hT hL6
     by_cases t0:T<0
     ·have hF:=Hi (show R=(0,0) from by rw[uh HQ,if_pos t0])
      clear HQ H6 U6
      go_enter func169,ntmps169
      go_wp2_with fail
      refine (uh P _).mono ?_
      rintro e w2 ⟨rfl,rfl⟩
      go_wp2_with fail
      refine (uh S _).mono ?_
      rintro e w3 ⟨rfl,rfl⟩
      go_wp2_with fail
      refine (uh U0 _ (Below.refl _ _)).mono ?_
      rintro e w3 ⟨rfl,b3⟩
      go_wp2_with fail
      go_ret2
      exact⟨by rw[uh hF];rfl,b3⟩
     by_cases tl:56320≤T∧T≤57343
     ·have hF:=Hi (show R=(0,0) from by rw[uh HQ,if_neg t0,if_neg (by omega),if_neg (by omega)])
      obtain⟨tl1,tl2⟩:=tl;clear HQ H6 U6
      go_enter func169,ntmps169
      go_wp2_with fail
      refine (uh P _).mono ?_
      rintro e w2 ⟨rfl,rfl⟩
      go_wp2_with fail
      refine (uh S _).mono ?_
      rintro e w3 ⟨rfl,rfl⟩
      go_wp2_with fail
      refine (uh U0 _ (Below.refl _ _)).mono ?_
      rintro e w3 ⟨rfl,b3⟩
      go_wp2_with fail
      go_ret2
      exact⟨by rw[uh hF];rfl,b3⟩
     by_cases th:55296≤T∧T≤56319
     ·obtain⟨th1,th2⟩:=th
      have tnl:¬56320≤T:=by omega
      have h6:=uh H6 (by omega)
      have U7:=Hi (fun W hb=>uh U6 W hb h6)
      clear H6 U6
      by_cases lo:56320≤L6∧L6≤57343
      ·have hF:=Hi (show R=(65536+(T-55296) * 1024+(L6-56320),12) from by rw[uh HQ,if_neg t0,if_neg (by omega),if_pos (by omega)])
       obtain⟨lo1,lo2⟩:=lo;have J:=Hi (fun W=>ints.zif T L6 W th1 th2 lo1 lo2)
       obtain⟨X,hX⟩:∃ X,X=65536+(T-55296) * 1024+(L6-56320):=⟨_,rfl⟩;rw[←hX] at hF J;clear HQ hX tl
       go_enter func169,ntmps169
       go_wp2_with fail
       refine (uh P _).mono ?_
       rintro e w2 ⟨rfl,rfl⟩
       go_wp2_with fail
       refine (uh S _).mono ?_
       rintro e w3 ⟨rfl,rfl⟩
       go_wp2_with fail
       refine (uh U0 _ (Below.refl _ _)).mono ?_
       rintro e w3 ⟨rfl,b3⟩
       go_wp2_with fail
       rw[show ((i:Int)+6)=((i+6:Nat):Int) by omega]
       refine (uh U7 _ b3).mono ?_
       rintro e w4 ⟨rfl,b4⟩
       go_wp2_with fail
       refine (uh J _).mono ?_
       rintro e w5 ⟨rfl,rfl⟩
       go_wp2_with fail
       go_ret2
       exact⟨by rw[uh hF];rfl,b3.trans (b4.mono b3.size)⟩
      ·have hF:=Hi (show R=(0,0) from by rw[uh HQ,if_neg t0,if_neg (by omega),if_neg (by omega)])
       have J:=Hi (fun W=>ints.zjM T L6 W (by omega))
       clear HQ tl lo
       go_enter func169,ntmps169
       go_wp2_with fail
       refine (uh P _).mono ?_
       rintro e w2 ⟨rfl,rfl⟩
       go_wp2_with fail
       refine (uh S _).mono ?_
       rintro e w3 ⟨rfl,rfl⟩
       go_wp2_with fail
       refine (uh U0 _ (Below.refl _ _)).mono ?_
       rintro e w3 ⟨rfl,b3⟩
       go_wp2_with fail
       rw[show ((i:Int)+6)=((i+6:Nat):Int) by omega]
       refine (uh U7 _ b3).mono ?_
       rintro e w4 ⟨rfl,b4⟩
       go_wp2_with fail
       refine (uh J _).mono ?_
       rintro e w5 ⟨rfl,rfl⟩
       go_wp2_with fail
       go_ret2
       exact⟨by rw[uh hF];rfl,b3.trans (b4.mono b3.size)⟩
     ·have hF:=Hi (show R=(T,6) from by rw[uh HQ,if_neg t0,if_pos (by omega)])
      clear HQ H6 U6;have tc:T<55296∨57343<T:=by omega
      clear tl th
      rcases tc with tc | tc
      ·have t1:¬56320≤T:=by omega
       have t2:¬55296≤T:=by omega
       go_enter func169,ntmps169
       go_wp2_with fail
       refine (uh P _).mono ?_
       rintro e w2 ⟨rfl,rfl⟩
       go_wp2_with fail
       refine (uh S _).mono ?_
       rintro e w3 ⟨rfl,rfl⟩
       go_wp2_with fail
       refine (uh U0 _ (Below.refl _ _)).mono ?_
       rintro e w3 ⟨rfl,b3⟩
       go_wp2_with fail
       go_ret2
       exact⟨by rw[uh hF];rfl,b3⟩
      ·have t1:¬T≤57343:=by omega
       have t2:¬T≤56319:=by omega
       have t3:56320≤T:=by omega
       have t4:55296≤T:=by omega
       go_enter func169,ntmps169
       go_wp2_with fail
       refine (uh P _).mono ?_
       rintro e w2 ⟨rfl,rfl⟩
       go_wp2_with fail
       refine (uh S _).mono ?_
       rintro e w3 ⟨rfl,rfl⟩
       go_wp2_with fail
       refine (uh U0 _ (Below.refl _ _)).mono ?_
       rintro e w3 ⟨rfl,b3⟩
       go_wp2_with fail
       go_ret2
       exact⟨by rw[uh hF];rfl,b3⟩
   ·have hF:=Hi (show R=(0,0) from by
     rw[uh hP2];unfold escZ
     rw[if_pos (by rw[List.length_drop,uh HL];omega)])
    have i2:¬(i:Int)+1<(n:Int):=by omega
    have i3:(n:Int)≤(i:Int)+1:=by omega
    clear hE U hP2
    go_enter func169,ntmps169
    go_wp2_with fail
    refine (uh P _).mono ?_
    rintro e w2 ⟨rfl,rfl⟩
    go_wp2_with fail
    go_ret2
    exact⟨by rw[uh hF];rfl,Below.refl _ _⟩
  ·have hF:=Hi (show R=(0,0) from by
    rw[uh hP,if_neg h92,if_pos];unfold plB at hpl
    cases hs:soB x with
    | false=>exact .inr (.inr (.inr rfl))
    | true =>
     rw[hs] at hpl
     by_cases p1:x=34
     ·exact .inl p1
     by_cases p2:x=10
     ·exact .inr (.inl p2)
     by_cases p3:x=13
     ·exact .inr (.inr (.inl p3))
     ·simp[h92,p1,p2,p3] at hpl)
   have b92:(x != 92)=true:=by simpa using h92
   rw[hpl] at P;clear hpl hP hE U h92
   go_enter func169,ntmps169
   go_wp2_with fail
   refine (uh P _).mono ?_
   rintro e w2 ⟨rfl,rfl⟩
   go_wp2_with fail
   go_ret2
   exact⟨by rw[uh hF];rfl,Below.refl _ _⟩
theorem zgA(a:Option Addr)(n c:Nat)(l:List Int)(w:World)(h:Row .i32 w a n c l)(hn:n≤1099511627776) :
  Calls prog 149 #[.slice a n c] w fun e w'=>e = .returned (.tuple #[.string (quoS l),.int .i64 (quoE l)])∧Below w.heap.size w w':=by
 obtain⟨i0,hi,hz0,hz1,hz2⟩:=info_parts info32;have HL:=Hi h.len
 go_enter func149,ntmps149
 go_wp2_with fail
 go_loopw [4,5] (fun v iv wr=>∃ (k fu:Nat) (d:List Int),k≤n∧iv = .int .i64 k∧n-k≤fu∧d.length≤k∧Hid (quo l=(quoF fu (l.drop k)).map (d ++ ·))∧wr.ownsRow w.heap.size 21 1 v d.length (d.map (Value.int .i32))∧Below w.heap.size w wr) (fun _ i _=>n-(intOf i).toNat)
 case atStart =>
  refine⟨0,n,[],Nat.zero_le _,rfl,by omega,lr _,Hi ?_,World.ownsRow_nil _ _ _ _,Below.refl _ _⟩
  unfold quo;rw[uh HL];simp
 case round =>
  obtain⟨k,fu,d,hk,rfl,hfu,hdk,HQ,hown,hbel⟩:=hrel;have hbs:=hbel.size
  by_cases hlt:k<n
  ·have ki:(k:Int)<(n:Int):=by omega
   obtain⟨f2,rfl⟩:∃ f2,fu=f2+1:=⟨fu-1,by omega⟩
   have HP:=Hi (zik a n c l k _ (h.below hbel) (by omega) hlt)
   have hpl:=zh1 (l.drop k) (by rw[List.length_drop,uh HL];omega)
   rw[List.length_drop,uh HL] at hpl
   have HQ2:=Hi (show quo l=(if (pceZ (l.drop k)).2=0 then none else (quoF f2 (l.drop (k+(pceZ (l.drop k)).2))).map ((pceZ (l.drop k)).1 :: ·)).map (d ++ ·) from by
    rw[uh HQ]
    show (if (l.drop k).length=0 then some [] else if (pceZ (l.drop k)).2=0 then none else (quoF f2 ((l.drop k).drop (pceZ (l.drop k)).2)).map ((pceZ (l.drop k)).1 :: ·)).map (d ++ ·)=_
    rw[if_neg (by rw[List.length_drop,uh HL];omega),List.drop_drop])
   obtain⟨X,hX⟩:∃ X,X=(pceZ (l.drop k)).1:=⟨_,rfl⟩;obtain⟨L,hL⟩:∃ L,L=(pceZ (l.drop k)).2:=⟨_,rfl⟩;rw[←hX,←hL] at HP HQ2;rw[←hL] at hpl;clear hX hL HQ
   by_cases hL0:L=0
   ·have hq:=Hi (show quo l=none from by rw[uh HQ2,if_pos hL0];rfl)
    subst hL0;clear HQ2
    go_wp2_with fail
    refine (uh HP).mono ?_
    rintro e w1 ⟨rfl,hb1⟩
    go_wp2_with fail
    go_ret2
    exact⟨by rw[show quoS l=⟨#[]⟩ from by unfold quoS;rw[uh hq],show quoE l=60 from by unfold quoE;rw[uh hq]];rfl,hbel.trans (hb1.mono hbel.size)⟩
   ·have HQ3:=Hi (show quo l=(quoF f2 (l.drop (k+L))).map ((d++[X]) ++ ·) from by
     rw[uh HQ2,if_neg hL0,Option.map_map]
     congr 1
     funext r
     simp)
    have Lb:((L:Int)==0)=false:=by simp;omega
    clear HQ2;obtain⟨aB,cB,rfl⟩:=zaz hown
    go_wp2_with fail
    refine (uh HP).mono ?_
    rintro e w1 ⟨rfl,hb1⟩;have hown1:=zah hown hb1;have hb1s:=hb1.size
    go_wp2_with (at_builtin;refine zau _ rfl _ _ 109 rfl w.heap.size 21 i0 .i32 4 underlying109 hi hz0 hz1 hz2 _ _ _ rfl hown1 _ rfl (by unfold maxLen;omega) (by omega) (by omega) ?_;intro v' wC hown' hbC)
    refine⟨⟨k+L,f2,d++[X],by omega,by go_num,by omega,by simp;omega,HQ3,?_,(hbel.trans (hb1.mono hbs)).trans hbC⟩,by simp only[intOf];omega⟩
    rw[List.length_append,List.map_append];exact hown'
  ·obtain rfl:k=n:=by omega
   have ki:¬(k:Int)<(k:Int):=by omega
   have hq:=Hi (show quo l=some d from by rw[uh HQ,zf1 fu (l.drop k) (by rw[List.length_drop,uh HL];omega)];simp)
   obtain⟨aB,cB,rfl,hRd⟩:=zay hown;have HE:=Hi (zb2 aB d.length cB d _ hRd (by omega))
   clear HQ
   go_wp2_with fail
   refine (uh HE).mono ?_
   rintro e w1 ⟨rfl,hb1⟩
   go_wp2_with fail
   go_ret2
   exact⟨by rw[show quoS l=encS d from by unfold quoS;rw[uh hq],show quoE l=0 from by unfold quoE;rw[uh hq]];rfl,hbel.trans (hb1.mono hbel.size)⟩
end lx
namespace sv
theorem zio(c:Int):sv.soB c=lx.soB c:=by
 rw[Bool.eq_iff_iff];unfold sv.soB lx.soB;simp only[Bool.or_eq_true,Bool.and_eq_true,decide_eq_true_eq,beq_iff_eq];omega
theorem ze6(l:List Int):lx.eqB l=esc4 l:=by
 rw[Bool.eq_iff_iff]
 constructor
 ·intro h
  unfold lx.eqB at h;obtain⟨h0,h1,h2,h3⟩:=of_decide_eq_true h;have hl:=lx.zaE h3 (by decide)
  match l,hl,h0,h1,h2,h3 with
  | a::b::c::d::r,_,h0,h1,h2,h3 =>
   have e0:a=92:=by simpa[lx.cAt] using h0
   have e1:b=34:=by simpa[lx.cAt] using h1
   have e2:c=34:=by simpa[lx.cAt] using h2
   have e3:d=34:=by simpa[lx.cAt] using h3
   subst e0 e1 e2 e3;rfl
 ·intro h
  obtain⟨r,rfl⟩:=za8 h;unfold lx.eqB
  apply decide_eq_true
  simp[lx.cAt]
theorem ziK(c:Int)(r:List Int):lx.cAt (c::r) 0=c:=by simp[lx.cAt]
theorem zef:∀ (k:Nat) (l:List Int) (q:Nat) (last:Int) (o:Bool),l.length≤k→q≤2→o=decide (last=34∨last=92)→std l q last=true→lx.blkF k l q o=some (opn l,true)
 | k,[],q,last,o,_,_,ho,h=>by
  rw[lx.zfw k [] q o rfl,zbw];rw[zfo] at h;simp at h;rw[ho];simp[h.1,h.2]
 | 0,c::r,_,_,_,h,_,_,_=>by simp at h
 | k+1,c::r,q,last,o,hk,hq,ho,h=>by
  have hr:r.length≤k:=by simp at hk;omega
  unfold lx.blkF;rw[if_neg (by simp)]
  cases he:esc4 (c::r) with
  | true =>
   rw[zeg q last he] at h;rw[if_pos (by rw[ze6];exact he),zb0 he]
   rw[show (c::r).drop 4=r.drop 3 from rfl,zef k (r.drop 3) 0 0 false (by simp;omega) (by omega) (by decide) h]
   rfl
  | false =>
   rw[if_neg (by rw[ze6,he];decide),ziK,zdg he]
   by_cases h34:c=34
   ·subst h34
    rw[zbP] at h
    by_cases hq2:q=2
    ·rw[if_pos hq2] at h;cases h
    rw[if_neg hq2] at h;rw[if_pos rfl,if_neg (fun e=>by rcases e with e | e;exact hq2 e;exact absurd e (by decide))]
    rw[show (34::r:List Int).drop 1=r from rfl,zef k r (q+1) 34 true hr (by omega) (by decide) h]
    rfl
   ·rw[zga q last he h34,Bool.and_eq_true,zio] at h
    rw[if_neg h34,if_neg (by rw[h.1];decide)]
    rw[show (c::r:List Int).drop 1=r from rfl,zef k r 0 c (decide (c=92)) hr (by omega) (by simp[h34]) h.2]
    rfl
theorem zca(l:List Int)(i j:Nat)(hi:i<j)(hl:i<l.length):lx.insZ l i j=lx.cAt l i::lx.insZ l (i+1) j:=by
 unfold lx.insZ;rw[lx.zbk hl,List.drop_eq_getElem_cons hl,show j-i=(j-(i+1))+1 by omega,List.take_succ_cons]
 simp[List.getD,hl]
theorem zk7(l:List Int)(i:Nat):lx.insZ l i i=[]:=by unfold lx.insZ;simp
theorem zcY(l:List Int):∀ (k i j q:Nat) (last:Int),lx.endB l k i=some j→q≤2→(∀ r,1≤r→r≤q→r≤i∧lx.cAt l (i-r)=34∧lx.tq l (i-r)=false)→(last=34→1≤q)→(last=92→lx.tq l i=false)→std (lx.insZ l i j) q last=true
 | 0,i,j,q,last,h,_,_,_,_=>by cases h
 | k+1,i,j,q,last,h,hq,hC,hA,hB=>by
  unfold lx.endB at h
  split at h
  ·rename_i ht
   simp at h;subst h;rw[zk7,zfo];have h92:last≠92:=fun e=>by rw[hB e] at ht;cases ht
   have h34:last≠34:=fun e=>by
    obtain⟨r1,r2,r3⟩:=hC 1 (lr _) (hA e);unfold lx.tq at ht r3;have ht:=of_decide_eq_true ht;have r3:=of_decide_eq_false r3;rw[show i-1+1=i by omega,show i-1+2=i+1 by omega] at r3
    exact r3 ⟨r2,ht.1,ht.2.1⟩
   simp[h92,h34]
  ·rename_i ht
   split at h
   ·rename_i he
    have hle:=lx.zbX l k _ _ h;have h2:=he.2;unfold lx.tq at h2;have h2:=of_decide_eq_true h2;have hl:=lx.zaE h2.2.2 (by decide)
    have hl2:=lx.zci l j hle.2;rw[zca l i j (by omega) (by omega),zca l (i+1) j (by omega) (by omega),zca l (i+1+1) j (by omega) (by omega),zca l (i+1+1+1) j (by omega) (by omega),he.1,h2.1,h2.2.1,h2.2.2]
    rw[zeg q last (by rfl)]
    exact zcY l k (i+4) j 0 0 h (by omega) (fun r h1 h2=>by omega) (fun e=>by cases e) (fun e=>by cases e)
   ·rename_i he
    split at h
    ·cases h
    ·rename_i hs
     have hs:lx.soB (lx.cAt l i)=true:=by cases e:lx.soB (lx.cAt l i) <;> simp_all
     have hle:=lx.zbX l k _ _ h;have hl:=lx.zaE (l:=l) (i:=i) rfl (fun e=>by rw[e] at hs;exact absurd hs (by decide))
     have htf:lx.tq l i=false:=by cases e:lx.tq l i <;> simp_all
     rw[zca l i j (by omega) hl]
     have hes:esc4 (lx.cAt l i::lx.insZ l (i+1) j)=false:=by
      rw[zdX]
      cases e:tri (lx.insZ l (i+1) j) with
      | false=>simp
      | true =>
       obtain⟨x,hx⟩:=zgh e;have hg:∀ m,m<3→(lx.insZ l (i+1) j)[m]? = some 34:=fun m hm=>by rw[hx];match m,hm with | 0,_=>rfl | 1,_=>rfl | 2,_=>rfl
       have hc:∀ m,m<3→lx.cAt l (i+1+m)=34:=fun m hm=>by
        have:=hg m hm;unfold lx.insZ at this;rw[List.getElem?_take] at this
        split at this
        ·rw[List.getElem?_drop] at this
         unfold lx.cAt
         have hlt:i+1+m<l.length:=by
          rcases Nat.lt_or_ge (i+1+m) l.length with h1 | h1
          ·exact h1
          ·rw[List.getElem?_eq_none h1] at this;cases this
         rw[if_pos hlt,List.getD,this];rfl
        ·cases this
       have:¬lx.cAt l i=92:=fun e9=>he ⟨e9,by unfold lx.tq;exact decide_eq_true ⟨hc 0 (by omega),hc 1 (by omega),hc 2 (by omega)⟩⟩
       simp[this]
     by_cases h34:lx.cAt l i=34
     ·rw[h34,zbP]
      have hq2:q≠2:=fun e=>by
       obtain⟨r1,r2,r3⟩:=hC 2 (by omega) (by omega)
       obtain⟨s1,s2,s3⟩:=hC 1 (by omega) (by omega)
       unfold lx.tq at r3;have r3:=of_decide_eq_false r3;rw[show i-2+1=i-1 by omega,show i-2+2=i by omega] at r3
       exact r3 ⟨r2,s2,h34⟩
      rw[if_neg hq2];refine zcY l k (i+1) j (q+1) 34 h (by omega) (fun r h1 h2=>?_) (fun _=>by omega) (fun e=>by cases e)
      by_cases hr1:r=1
      ·subst hr1
       exact⟨by omega,by rw[show i+1-1=i by omega];exact h34,by rw[show i+1-1=i by omega];exact htf⟩
      ·obtain⟨s1,s2,s3⟩:=hC (r-1) (by omega) (by omega)
       rw[show i+1-r=i-(r-1) by omega]
       exact⟨by omega,s2,s3⟩
     ·rw[zga q last hes h34,zio,hs,Bool.true_and]
      exact zcY l k (i+1) j 0 (lx.cAt l i) h (by omega) (fun r h1 h2=>by omega) (fun e=>absurd e h34) (fun e=>by cases e2:lx.tq l (i+1) with | false=>rfl | true=>exact absurd ⟨e,e2⟩ he)
theorem zd4:∀ (l:List Int),∃ h t u,lns l=h::t∧l=h++u
 | []=>⟨[],[],[],rfl,rfl⟩
 | c::r=>by
  unfold lns
  split
  ·exact⟨[],_,_,rfl,rfl⟩
  ·split
   ·split
    ·obtain⟨h,t,u,e1,e2⟩:=zd4 r
     rename_i hh
     cases r with
     | nil=>simp at hh
     | cons d r =>
      simp at hh;subst hh;exact⟨[],lns r,_,by simp[lns],rfl⟩
    ·exact⟨[],_,_,rfl,rfl⟩
   ·obtain⟨h,t,u,e1,e2⟩:=zd4 r
    exact⟨c::h,t,u,by rw[e1];rfl,by rw[e2];rfl⟩
theorem zfW(r:List Int):(opn r).head? = some 10 ↔ r.head? = some 10:=by
 cases r with
 | nil=>rw[zbw]
 | cons d x =>
  cases h:esc4 (d::x) with
  | true =>
   obtain⟨y,hy⟩:=za8 h;rw[zb0 h,hy];simp
  | false=>rw[zdg h];simp
theorem zcz:∀ (n:Nat) (l:List Int),l.length≤n→lns (opn l)=(lns l).map opn
 | _,[],_=>by rw[zbw];simp[lns,zbw]
 | 0,c::r,h=>by simp at h
 | n+1,c::r,h=>by
  have hr:r.length≤n:=by simp at h;omega
  cases he:esc4 (c::r) with
  | true =>
   obtain⟨x,hx⟩:=za8 he
   injection hx with h1 h2
   subst h1 h2;rw[zb0 he];rw[show (34::34::34::x:List Int).drop 3=x from rfl]
   have hl:∀ (c:Int) (y:List Int),c≠10→c≠13→lns (c::y)=pre c (lns y):=fun c y h1 h2=>by rw[lns,if_neg h1,if_neg h2]
   rw[hl 34 _ (by decide) (by decide),hl 34 _ (by decide) (by decide),hl 34 _ (by decide) (by decide)]
   rw[hl 92 _ (by decide) (by decide),hl 34 _ (by decide) (by decide),hl 34 _ (by decide) (by decide),hl 34 _ (by decide) (by decide)]
   rw[zcz n x (by simp at hr;omega)]
   obtain⟨h,t,u,e1,e2⟩:=zd4 x;rw[e1];simp only[List.map_cons,pre];rw[zb0 (by rfl)]
   rfl
  | false =>
   rw[zdg he];rw[lns,lns]
   by_cases h10:c=10
   ·rw[if_pos h10,if_pos h10,zcz n r hr,List.map_cons,zbw]
   ·rw[if_neg h10,if_neg h10]
    by_cases h13:c=13
    ·rw[if_pos h13,if_pos h13]
     by_cases hh:r.head? = some 10
     ·rw[if_pos ((zfW r).2 hh),if_pos hh,zcz n r hr]
     ·rw[if_neg (fun e=>hh ((zfW r).1 e)),if_neg hh,zcz n r hr,List.map_cons,zbw]
    ·rw[if_neg h13,if_neg h13,zcz n r hr]
     obtain⟨h,t,u,e1,e2⟩:=zd4 r;rw[e1];simp only[List.map_cons,pre];rw[zdg];rw[zdX] at he ⊢
     cases e9:(c==92) with
     | false=>rfl
     | true =>
      rw[e9] at he;simp only[Bool.true_and] at he ⊢
      cases ht:tri h with
      | false=>rfl
      | true =>
       obtain⟨y,hy⟩:=zgh ht;rw[e2,hy] at he;simp[tri] at he
theorem zkK(L:List (List Int))(x:List Int)(hx:x∈L.drop 1):blk (x.drop (cmn L))=blk x:=by
 unfold cmn
 cases e:lst (L.drop 1) with
 | none=>simp
 | some m =>
  simp only[Option.getD_some]
  cases hb:blk x with
  | true=>exact zaY x m hb
  | false=>rw[ziF x m ((zd5 e).2 x hx hb),hb]
theorem zmn(L:List (List Int)):cmI L=cmn L:=by
 unfold cmI cmn lsI
 cases lst (L.drop 1) with
 | none=>rfl
 | some m=>simp
theorem zei{A M:List (List Int)}(hA:∀ x∈A,blk x=true)(hM:∃ x r,M=x::r∧blk x=false):(A++M).takeWhile blk=A:=by
 induction A with
 | nil =>
  obtain⟨x,r,rfl,hx⟩:=hM;simp[hx]
 | cons a A ih =>
  rw[List.cons_append,List.takeWhile_cons,hA a (by simp),if_pos rfl,ih (fun x hx=>hA x (by simp[hx]))]
theorem zmo(L:List (List Int)):dd L=ddt L:=by
 unfold dd ddt;rw[zmn];have hbc:=zkK L
 generalize cmn L=c at *
 rcases zgi L with ⟨h0,hall⟩ | ⟨A,B,hL,hA,hB,hM1,hM2⟩
 ·rw[h0]
  have hcut:∀ x∈cutL c L,blk x=true:=by
   cases L with
   | nil=>intro x hx;cases hx
   | cons y L =>
    intro x hx;simp only[cutL,List.mem_cons,List.mem_map] at hx
    rcases hx with rfl | ⟨z,hz,rfl⟩
    ·exact hall _ (by simp)
    ·exact zaY z c (hall z (by simp[hz]))
  have:trm (cutL c L)=[]:=by
   unfold trm;rw[za4 hcut];rfl
  rw[this];unfold cutF
  split <;> rfl
 ·generalize trm L=M at *
  obtain⟨x,r,hM1,hx⟩:=hM1;obtain⟨y,s,hM2,hy⟩:=hM2
  have hf:frm L=A.length:=by
   unfold frm;rw[hL,List.append_assoc,zei hA ⟨x,r++B,by rw[hM1];rfl,hx⟩]
  rw[hf]
  cases A with
  | nil =>
   rw[show cutF ([]:List (List Int)).length c M=cutL c M from rfl]
   symm
   have e:cutL c L=[]++cutL c M++B.map (List.drop c):=by
    rw[hL,hM1];simp[cutL]
   rw[e];refine zfs (fun x hx=>by cases hx) (fun z hz=>?_) ⟨x,r.map (List.drop c),by rw[hM1];rfl,hx⟩ ?_
   ·simp only[List.mem_map] at hz
    obtain⟨z,hz,rfl⟩:=hz;exact zaY z c (hB z hz)
   ·cases s with
    | nil =>
     refine⟨y,[],?_,hy⟩
     rw[hM2];rfl
    | cons a s =>
     refine⟨y.drop c,a::s.map (List.drop c),?_,?_⟩
     ·rw[hM2]
      simp[cutL]
     ·rw[hbc y (by rw[hL,hM2];simp),hy]
  | cons a A =>
   rw[show cutF (a::A).length c M=M.map (List.drop c) from rfl]
   symm
   have e:cutL c L=(a::A.map (List.drop c))++M.map (List.drop c)++B.map (List.drop c):=by
    rw[hL];simp[cutL]
   rw[e];refine zfs (fun z hz=>?_) (fun z hz=>?_) ⟨x.drop c,r.map (List.drop c),by rw[hM1];rfl,?_⟩ ⟨y.drop c,s.map (List.drop c),by rw[hM2];simp,?_⟩
   ·simp only[List.mem_cons,List.mem_map] at hz
    rcases hz with rfl | ⟨z,hz,rfl⟩
    ·exact hA _ (by simp)
    ·exact zaY z c (hA z (by simp[hz]))
   ·simp only[List.mem_map] at hz
    obtain⟨z,hz,rfl⟩:=hz;exact zaY z c (hB z hz)
   ·rw[hbc x (by rw[hL,hM1];simp),hx]
   ·rw[hbc y (by rw[hL,hM2];simp),hy]
end sv
namespace mem
open ints (Hi uh)
def staTo(l:List Int):Nat→List Int
 | 0=>[0]
 | k+1=>if enB l k then staTo l k++[(k:Int)+1] else staTo l k
theorem zbn(l:List Int)(k:Nat):1≤(staTo l k).length∧(staTo l k).length≤k+1:=by
 induction k with
 | zero=>simp[staTo]
 | succ k ih =>
  simp only[staTo]
  split
  ·rw[List.length_append,List.length_singleton];omega
  ·omega
theorem infoInt:(prog.info? 3).map (fun i=>(i.zero,i.size,i.bytes))=some (some (.int .i64 0),1,8):=by kernel_rfl
theorem zcf{l:List Int}{k:Nat}(h:enB l k=true):staTo l (k+1)=staTo l k++[(k:Int)+1]:=by simp[staTo,h]
theorem zee{l:List Int}{k:Nat}(h:enB l k=false):staTo l (k+1)=staTo l k:=by simp[staTo,h]
theorem zdH(a:Option Addr)(n c:Nat)(l:List Int)(w:World)(h:Row .i32 w a n c l)(hn:n≤1099511627776) :
  Calls prog 101 #[.slice a n c] w fun e w'=>∃ v,e = .returned v∧w'.ownsRow w.heap.size 3 1 v (staTo l n).length ((staTo l n).map (Value.int .i64))∧Below w.heap.size w w':=by
 obtain⟨i0,hi,hz0,hz1,hz2⟩:=info_parts infoInt;have hlit:=World.ownsRow_lit (base:=w.heap.size) (e:=3) (size:=1) w #[Value.int .i64 0] 1 (lr _) (by unfold maxLen;omega) rfl
 have HLit:=Hi hlit;clear hlit
 go_enter func101,ntmps101
 go_wp2
 go_loopw [3,4] (fun v i wr=>∃ k:Nat,k≤n∧i = .int .i64 k∧wr.ownsRow w.heap.size 3 1 v (staTo l k).length ((staTo l k).map (Value.int .i64))∧Below w.heap.size w wr) (fun _ i _=>n-(intOf i).toNat)
 case atStart=>exact⟨0,Nat.zero_le _,rfl,uh HLit,ba⟩
 case round =>
  obtain⟨k,hk,rfl,hown,hbel⟩:=hrel;clear HLit
  by_cases hlt:k<n
  ·rcases h.at_ with h0 | ⟨b,off,rfl,hbw,hcell⟩
   ·omega
   have c1:=(hbel.cell (p:=⟨b,off+k,none⟩) hbw).trans (hcell k hlt);obtain⟨x,hx⟩:∃ x,x=l.getD k 0:=⟨_,rfl⟩;rw[←hx] at c1;have Hx:=Hi hx;have ki:(k:Int)<(n:Int):=by omega
   have hlp:=(zbn l k).2;have HL:=Hi h.len;clear hx
   cases e10:(x==10)
   ·cases e13:(x==13)
    ·have hno:=Hi (show enB l k=false from by unfold enB;rw[←uh Hx,e10,e13];rfl)
     have n10:(x != 10)=true:=by simp only[bne,e10];rfl
     have n13:(x != 13)=true:=by simp only[bne,e13];rfl
     clear hcell
     go_wp2
     go_roundw
     case rel=>exact⟨k+1,by omega,by go_num,by rw[zee (uh hno)];exact hown,hbel⟩
     case measure=>simp[intOf];omega
    ·have n13:(x != 13)=false:=by simp only[bne,e13];rfl
     by_cases h1:k+1<n
     ·have c2:=(hbel.cell (p:=⟨b,off+(k+1),none⟩) hbw).trans (hcell (k+1) h1)
      obtain⟨y,hy⟩:∃ y,y=l.getD (k+1) 0:=⟨_,rfl⟩;rw[←hy] at c2;have Hy:=Hi hy;have k1i:(k:Int)+1<(n:Int):=by omega
      clear hy hcell
      cases f10:(y==10)
      ·have hyes:=Hi (show enB l k=true from by unfold enB prB;rw[←uh Hx,←uh Hy,e10,e13,f10];simp)
       have HLT:=Hi hown.lt;have hcel:=cellv wr (.int .i64 ((k:Int)+1)) 3
       go_wp2_with (at_builtin;refine wpList_append_own _ rfl (.tmp 44) (.tmp 47) 144 rfl w.heap.size 3 i0 (.int .i64 0) 1 8 underlying144 hi hz0 hz1 hz2 rfl (by decide) _ _ _ rfl (hown.alloc _) ⟨wr.heap.size,0,none⟩ 1 1 [.int .i64 ((k:Int)+1)] rfl rfl hcel (by intro u hu;simp at hu;subst hu;rfl) (by unfold maxLen;omega) (by omega) (by have:=hbel.size;simp;omega) ?_;intro v' w2 hown' hgrow _)
       go_roundw
       case rel=>exact⟨k+1,by omega,by go_num,by rw[zcf (uh hyes)];simpa using hown',(hbel.alloc hbel.size _).grown hgrow (by have:=hbel.size;simp;omega) (fun k hk=>(uh HLT k hk).1)⟩
       case measure=>simp[intOf];omega
      ·have hno:=Hi (show enB l k=false from by unfold enB prB;rw[←uh Hx,←uh Hy,e10,e13,f10,uh HL];simp[h1])
       go_wp2
       go_roundw
       case rel=>exact⟨k+1,by omega,by go_num,by rw[zee (uh hno)];exact hown,hbel⟩
       case measure=>simp[intOf];omega
     ·have k1i:¬(k:Int)+1<(n:Int):=by omega
      have hyes:=Hi (show enB l k=true from by unfold enB prB;rw[←uh Hx,e10,e13,uh HL];simp[h1])
      have HLT:=Hi hown.lt;have hcel:=cellv wr (.int .i64 ((k:Int)+1)) 3;clear hcell
      go_wp2_with (at_builtin;refine wpList_append_own _ rfl (.tmp 44) (.tmp 47) 144 rfl w.heap.size 3 i0 (.int .i64 0) 1 8 underlying144 hi hz0 hz1 hz2 rfl (by decide) _ _ _ rfl (hown.alloc _) ⟨wr.heap.size,0,none⟩ 1 1 [.int .i64 ((k:Int)+1)] rfl rfl hcel (by intro u hu;simp at hu;subst hu;rfl) (by unfold maxLen;omega) (by omega) (by have:=hbel.size;simp;omega) ?_;intro v' w2 hown' hgrow _)
      go_roundw
      case rel=>exact⟨k+1,by omega,by go_num,by rw[zcf (uh hyes)];simpa using hown',(hbel.alloc hbel.size _).grown hgrow (by have:=hbel.size;simp;omega) (fun k hk=>(uh HLT k hk).1)⟩
      case measure=>simp[intOf];omega
   ·have n10:(x != 10)=false:=by simp only[bne,e10];rfl
    have e13:(x==13)=false:=by simp at e10 ⊢;omega
    have n13:(x != 13)=true:=by simp only[bne,e13];rfl
    have hyes:=Hi (show enB l k=true from by unfold enB;rw[←uh Hx,e10];rfl)
    have HLT:=Hi hown.lt;have hcel:=cellv wr (.int .i64 ((k:Int)+1)) 3;clear hcell
    go_wp2_with (at_builtin;refine wpList_append_own _ rfl (.tmp 44) (.tmp 47) 144 rfl w.heap.size 3 i0 (.int .i64 0) 1 8 underlying144 hi hz0 hz1 hz2 rfl (by decide) _ _ _ rfl (hown.alloc _) ⟨wr.heap.size,0,none⟩ 1 1 [.int .i64 ((k:Int)+1)] rfl rfl hcel (by intro u hu;simp at hu;subst hu;rfl) (by unfold maxLen;omega) (by omega) (by have:=hbel.size;simp;omega) ?_;intro v' w2 hown' hgrow _)
    go_roundw
    case rel=>exact⟨k+1,by omega,by go_num,by rw[zcf (uh hyes)];simpa using hown',(hbel.alloc hbel.size _).grown hgrow (by have:=hbel.size;simp;omega) (fun k hk=>(uh HLT k hk).1)⟩
    case measure=>simp[intOf];omega
  ·have ek:k=n:=by omega
   subst ek
   go_wp2
   go_ret
   exact⟨_,rfl,hown,hbel⟩
theorem zeT(l:List Int)(k:Nat):∀ x∈staTo l k,0≤x∧x≤k:=by
 induction k with
 | zero=>intro x hx;simp[staTo] at hx;omega
 | succ k ih =>
  intro x hx;simp only[staTo] at hx
  split at hx
  ·rcases List.mem_append.1 hx with h | h
   ·have:=ih x h;omega
   ·simp at h;omega
  ·have:=ih x hx;omega
theorem zip(l:List Int)(i m:Nat)(h:i≤m):∃ r,staTo l m=staTo l i++r∧∀ x∈r,(i:Int)<x:=by
 induction m with
 | zero =>
  have:i=0:=by omega
  subst this;exact⟨[],by simp,by simp⟩
 | succ m ih =>
  by_cases e:i=m+1
  ·subst e;exact⟨[],by simp,by simp⟩
  ·obtain⟨r,hr,hx⟩:=ih (by omega)
   simp only[staTo]
   split
   ·refine⟨r++[(m:Int)+1],by rw[hr,List.append_assoc],?_⟩
    intro x hxm
    rcases List.mem_append.1 hxm with h1 | h1
    ·exact hx x h1
    ·simp at h1;omega
   ·exact⟨r,hr,hx⟩
theorem zjF(l:List Int)(i:Nat):(posT l i).1=(staTo l i).length∧(posT l i).2=(i:Int)+1-(staTo l i).getD ((staTo l i).length-1) 0:=by
 induction i with
 | zero=>simp[posT,staTo]
 | succ i ih =>
  simp only[posT,staTo]
  split
  ·refine⟨by rw[ih.1];simp,?_⟩
   simp[List.getD];omega
  ·refine⟨ih.1,?_⟩
   rw[ih.2];omega
def stN(S:List Int)(n k:Nat):Nat:=(S.getD k ((n:Int)+1)).toNat
theorem zce{l:List Int}{n k:Nat}(hk:k<(staTo l n).length):((stN (staTo l n) n k:Nat):Int)=(staTo l n).getD k 0∧stN (staTo l n) n k≤n:=by
 have hm:(staTo l n).getD k 0∈staTo l n:=by simp[List.getD,hk]
 have hb:=zeT l n _ hm;have e:(staTo l n).getD k ((n:Int)+1)=(staTo l n).getD k 0:=by simp[List.getD,hk]
 unfold stN;rw[e];omega
theorem zdo{l:List Int}{n k:Nat}(hk:(staTo l n).length≤k):stN (staTo l n) n k=n+1:=by
 unfold stN;simp[List.getD,List.getElem?_eq_none hk]
theorem zjG{l:List Int}{n k i:Nat}(hk:k<(staTo l n).length)(h1:stN (staTo l n) n k≤i)(h2:i<stN (staTo l n) n (k+1)) :
  (posT l i).1=(k:Int)+1∧(posT l i).2=(i:Int)-(staTo l n).getD k 0+1∧(staTo l i).length=k+1:=by
 have hs:=zce hk
 have hi:i≤n:=by
  by_cases hk1:k+1<(staTo l n).length
  ·have:=(zce hk1).2;omega
  ·have:=zdo (l:=l) (n:=n) (k:=k+1) (by omega);omega
 obtain⟨r,hr,hx⟩:=zip l i n hi;have hp:=zjF l i;have hpp:=zbn l i
 have hkp:k<(staTo l i).length:=by
  rcases Nat.lt_or_ge k (staTo l i).length with h | h
  ·exact h
  ·exfalso
   have hmem:(staTo l n).getD k 0∈r:=by
    have hk':=hk;rw[hr,List.length_append] at hk';rw[hr];have hlt:k-(staTo l i).length<r.length:=by omega
    simp[List.getD,List.getElem?_append_right h,hlt]
   have:=hx _ hmem;omega
 have hkq:¬k+1<(staTo l i).length:=by
  intro h;have hk1:k+1<(staTo l n).length:=by rw[hr,List.length_append];omega
  have e1:=(zce hk1).1
  have e2:(staTo l n).getD (k+1) 0=(staTo l i).getD (k+1) 0:=by
   rw[hr];simp[List.getD,List.getElem?_append_left h]
  have hm:(staTo l i).getD (k+1) 0∈staTo l i:=by simp[List.getD,h]
  have:=zeT l i _ hm;omega
 have hlen:(staTo l i).length=k+1:=by omega
 have e3:(staTo l n).getD k 0=(staTo l i).getD k 0:=by rw[hr];simp[List.getD,List.getElem?_append_left hkp]
 refine⟨by rw[hp.1,hlen];simp,?_,hlen⟩
 rw[hp.2,hlen,e3];simp;omega
theorem zlS(l:List Int)(n:Nat):∀ k,k+1<(staTo l n).length→(staTo l n).getD k 0≤(staTo l n).getD (k+1) 0:=by
 induction n with
 | zero=>intro k hk;simp[staTo] at hk
 | succ n ih =>
  intro k hk;simp only[staTo] at hk ⊢
  split
  ·rename_i he
   rw[if_pos he] at hk;rw[List.length_append,List.length_singleton] at hk
   by_cases h1:k+1<(staTo l n).length
   ·have e1:(staTo l n++[(n:Int)+1]).getD k 0=(staTo l n).getD k 0:=by simp[List.getD,List.getElem?_append_left (show k<(staTo l n).length by omega)]
    have e2:(staTo l n++[(n:Int)+1]).getD (k+1) 0=(staTo l n).getD (k+1) 0:=by simp[List.getD,List.getElem?_append_left h1]
    rw[e1,e2];exact ih k h1
   ·have e1:(staTo l n++[(n:Int)+1]).getD k 0=(staTo l n).getD k 0:=by simp[List.getD,List.getElem?_append_left (show k<(staTo l n).length by omega)]
    have e2:(staTo l n++[(n:Int)+1]).getD (k+1) 0=(n:Int)+1:=by
     have:k+1=(staTo l n).length:=by omega
     rw[this];simp[List.getD]
    have hm:(staTo l n).getD k 0∈staTo l n:=by simp[List.getD,show k<(staTo l n).length by omega]
    have:=zeT l n _ hm;rw[e1,e2];omega
  ·rename_i he
   rw[if_neg he] at hk;exact ih k hk
theorem zjV{l S:List Int}{n k:Nat}(hk:k<(staTo l n).length)(hS:S=staTo l n):stN S n k≤stN S n (k+1):=by
 subst hS;have h1:=zce hk
 by_cases hk1:k+1<(staTo l n).length
 ·have h2:=zce hk1
  have:=zlS l n k hk1;omega
 ·have:=zdo (l:=l) (n:=n) (k:=k+1) (by omega)
  omega
theorem zhX{w:World}{base:Nat}{v:Value}{n:Nat}{xs:List Value}(h:w.ownsRow base 31 2 v n xs):∀ G,v.ownBlock=some G→∃ cur,w.heap[G]? = some (.cells cur 31 (0,0)):=by
 intro G hG
 rcases h.2 with ⟨rfl,_⟩ | ⟨g',cap',cur,rfl,hg,hh,_⟩
 ·cases hG
 ·obtain rfl:=Option.some.inj hG
  exact⟨cur,hh⟩
theorem zeP{k:IntKind}{w:World}{base:Nat}{e:TypeId}{a:Option Addr}{n c:Nat}{zs:List Int}(h:w.ownsRow base e 1 (.slice a n c) n (zs.map (Value.int k))):Row k w a n c zs:=by
 obtain⟨a',c',e',hr⟩:=zay h;simp only[Value.slice.injEq] at e';obtain⟨rfl,_,rfl⟩:=e';exact hr
theorem zeB{w w2:World}{base:Nat}{v v1:Value}{n m:Nat}{xs ys:List Value}{o:Obj}(h:w.ownsRow base 3 1 v1 n xs)(hp:w.ownsRow base 31 2 v m ys)(hg:(w.alloc o).grownBy w2 v.ownBlock):w2.ownsRow base 3 1 v1 n xs:=by
 refine (h.alloc o).kept hg ?_
 cases hv:v1.ownBlock with
 | none=>exact .inl rfl
 | some g =>
  refine .inr (fun e=>?_)
  obtain⟨cur,hcur⟩:=zhX hp g e.symm
  rcases h.2 with ⟨rfl,_⟩ | ⟨g',cap',cur',rfl,_,hh,_⟩
  ·cases hv
  ·obtain rfl:=Option.some.inj hv
   rw[hh] at hcur;simp at hcur
theorem zfl(a:Option Addr)(n c:Nat)(l:List Int)(w:World)(h:Row .i32 w a n c l)(hn:n≤1099511627776) :
  Calls prog 78 #[.slice a n c] w fun e w'=>∃ v,e = .returned v∧w'.ownsRow w.heap.size 31 2 v (n+1) (posCells (plist l (n+1)))∧Below w.heap.size w w':=by
 obtain⟨i0,hi,hz0,hz1,hz2⟩:=info_parts infoPos;have hpp:=zbn l n;obtain⟨S,hS⟩:∃ S,S=staTo l n:=⟨_,rfl⟩;have HS:=Hi hS;rw[←hS] at hpp;have ST:=Hi (zdH a n c l w h hn);rw[←hS] at ST;clear hS
 go_enter func78,ntmps78
 go_wp2_with fail
 refine (uh ST).mono ?_
 rintro e w1 ⟨v1,rfl,ho1,hb1⟩;obtain⟨a1,c1,e1',_⟩:=zay ho1;subst e1';clear ST
 go_wp2
 go_loopw [3,5] (fun v i wr=>∃ k:Nat,k≤S.length∧i = .int .i64 k∧wr.ownsRow w.heap.size 31 2 v (stN S n k) (posCells (plist l (stN S n k)))∧wr.ownsRow w.heap.size 3 1 (.slice a1 S.length c1) S.length (S.map (Value.int .i64))∧Below w.heap.size w wr) (fun _ i _=>S.length-(intOf i).toNat)
 case atStart =>
  have e0:stN S n 0=0:=by
   have h1:=zce (l:=l) (n:=n) (k:=0) (by have:=zbn l n;omega)
   rw[←uh HS] at h1
   have h2:S.getD 0 0=0:=by
    rw[uh HS];obtain⟨r,hr,_⟩:=zip l 0 n (Nat.zero_le _);rw[hr];rfl
   omega
  exact⟨0,Nat.zero_le _,rfl,by rw[e0];exact World.ownsRow_nil _ _ _ _,ho1,hb1⟩
 case round =>
  obtain⟨k,hk,rfl,hown,hrs,hbel⟩:=hrel;clear ho1 hb1
  by_cases hlt:k<S.length
  ·have hin:=zce (l:=l) (n:=n) (k:=k) (by rw[←uh HS];exact hlt)
   rw[←uh HS] at hin
   rcases (zeP hrs).at_ with h0 | ⟨b,off,e1,hbw,hcell⟩
   ·omega
   subst e1;have hck:=hcell k hlt;obtain⟨sk,hsk⟩:∃ sk,sk=stN S n k:=⟨_,rfl⟩;rw[←hsk] at hin hown;rw[←hin.1] at hck;obtain⟨E,hE⟩:∃ E,E=stN S n (k+1):=⟨_,rfl⟩
   have hEn:E≤n+1:=by
    rw[hE]
    by_cases hk1:k+1<S.length
    ·have:=zce (l:=l) (n:=n) (k:=k+1) (by rw[←uh HS];exact hk1);rw[←uh HS] at this;omega
    ·have:=zdo (l:=l) (n:=n) (k:=k+1) (by rw[←uh HS];omega);rw[←uh HS] at this;omega
   have hskE:sk≤E:=by
    rw[hsk,hE];exact zjV (by rw[←uh HS];exact hlt) (uh HS)
   have Hline:=Hi (fun i (h1:sk≤i) (h2:i<E)=>zjG (l:=l) (n:=n) (k:=k) (i:=i) (by rw[←uh HS];exact hlt) (by rw[←uh HS,←hsk];exact h1) (by rw[←uh HS,←hE];exact h2))
   rw[←uh HS,←hin.1] at Hline;have HE:=Hi hE;have hkS:(k:Int)<(S.length:Int):=by omega
   have HIN:=Hi hin.1;have hsn:=hin.2;clear hsk hE hin
   by_cases hk1:k+1<S.length
   ·have h2:=zce (l:=l) (n:=n) (k:=k+1) (by rw[←uh HS];exact hk1)
    rw[←uh HS,←uh HE] at h2;have hck1:=hcell (k+1) hk1;rw[←h2.1] at hck1;have hk1i:(k:Int)+1<(S.length:Int):=by omega
    clear h2 hcell
    go_wp2
    go_loopw [3,7] (fun v i wr=>∃ j:Nat,sk≤j∧j≤E∧i = .int .i64 j∧wr.ownsRow w.heap.size 31 2 v j (posCells (plist l j))∧wr.ownsRow w.heap.size 3 1 (.slice (some ⟨b,off,none⟩) S.length c1) S.length (S.map (Value.int .i64))∧Below w.heap.size w wr) (fun _ i _=>E-(intOf i).toNat)
    case atStart=>exact⟨sk,lr _,hskE,rfl,hown,hrs,hbel⟩
    case round =>
     obtain⟨j,j1,j2,rfl,hown,hrs,hbel⟩:=hrel
     by_cases hjE:j<E
     ·rcases (zeP hrs).at_ with h0 | ⟨b',off',e1,hbw,hcell⟩
      ·omega
      obtain⟨rfl,rfl⟩:b=b'∧off=off':=by simpa using e1
      have hck:=hcell k hlt;rw[←uh HIN] at hck;obtain⟨p1,p2,_⟩:=uh Hline j j1 hjE;have HP1:=Hi p1;have HP2:=Hi p2;have HLT:=Hi hown.lt;have hjEi:(j:Int)<(E:Int):=by omega
      have hskj:(sk:Int)≤(j:Int):=by omega
      clear hcell e1 p1 p2
      go_wp2_with (at_builtin;refine wpList_append_own _ rfl (.tmp 38) (.tmp 49) 35 rfl w.heap.size 31 i0 (.agg #[.int .i64 0,.int .i64 0]) 2 16 underlying35 hi hz0 hz1 hz2 rfl (by decide) _ _ _ rfl (hown.alloc _) ⟨wr.heap.size,0,none⟩ 1 1 [.int .i64 ((k:Int)+1),.int .i64 ((j:Int)-(sk:Int)+1)] rfl rfl (zcQ _ _ _ _) (zd9 _ _) (by unfold maxLen;omega) (by omega) (by have:=hbel.size;simp;omega) ?_;intro v' w2 hown' hgrow _)
      go_roundw
      case rel =>
       have hb2:Below w.heap.size w w2:=(hbel.alloc hbel.size _).grown hgrow (by have:=hbel.size;simp;omega) (fun k hk=>(uh HLT k hk).1)
       refine⟨j+1,by omega,by omega,by go_num,?_,?_,hb2⟩
       ·rw[zcB,uh HP1,uh HP2];exact hown'
       ·exact zeB hrs hown hgrow
      case measure=>simp[intOf];omega
     ·have EJ:=Hi (show j=E from by omega)
      have hjEi:¬(j:Int)<(E:Int):=by omega
      go_wp2
      go_roundw
      case rel=>exact⟨k+1,by omega,by go_num,by rw[←uh HE,←uh EJ];exact hown,hrs,hbel⟩
      case measure=>simp[intOf];omega
   ·have h2:=zdo (l:=l) (n:=n) (k:=k+1) (by rw[←uh HS];omega)
    rw[←uh HS,←uh HE] at h2;have hk1i:¬(k:Int)+1<(S.length:Int):=by omega
    have hE1:(E:Int)≤(n:Int)+1:=by omega
    have hE2:(n:Int)+1≤(E:Int):=by omega
    clear h2 hcell
    go_wp2
    go_loopw [3,7] (fun v i wr=>∃ j:Nat,sk≤j∧j≤E∧i = .int .i64 j∧wr.ownsRow w.heap.size 31 2 v j (posCells (plist l j))∧wr.ownsRow w.heap.size 3 1 (.slice (some ⟨b,off,none⟩) S.length c1) S.length (S.map (Value.int .i64))∧Below w.heap.size w wr) (fun _ i _=>E-(intOf i).toNat)
    case atStart=>exact⟨sk,lr _,hskE,rfl,hown,hrs,hbel⟩
    case round =>
     obtain⟨j,j1,j2,rfl,hown,hrs,hbel⟩:=hrel
     by_cases hjE:j<E
     ·rcases (zeP hrs).at_ with h0 | ⟨b',off',e1,hbw,hcell⟩
      ·omega
      obtain⟨rfl,rfl⟩:b=b'∧off=off':=by simpa using e1
      have hck:=hcell k hlt;rw[←uh HIN] at hck;obtain⟨p1,p2,_⟩:=uh Hline j j1 hjE;have HP1:=Hi p1;have HP2:=Hi p2;have HLT:=Hi hown.lt;have hjEi:(j:Int)<(n:Int)+1:=by omega
      have hskj:(sk:Int)≤(j:Int):=by omega
      clear hcell e1 p1 p2
      go_wp2_with (at_builtin;refine wpList_append_own _ rfl (.tmp 38) (.tmp 49) 35 rfl w.heap.size 31 i0 (.agg #[.int .i64 0,.int .i64 0]) 2 16 underlying35 hi hz0 hz1 hz2 rfl (by decide) _ _ _ rfl (hown.alloc _) ⟨wr.heap.size,0,none⟩ 1 1 [.int .i64 ((k:Int)+1),.int .i64 ((j:Int)-(sk:Int)+1)] rfl rfl (zcQ _ _ _ _) (zd9 _ _) (by unfold maxLen;omega) (by omega) (by have:=hbel.size;simp;omega) ?_;intro v' w2 hown' hgrow _)
      go_roundw
      case rel =>
       have hb2:Below w.heap.size w w2:=(hbel.alloc hbel.size _).grown hgrow (by have:=hbel.size;simp;omega) (fun k hk=>(uh HLT k hk).1)
       refine⟨j+1,by omega,by omega,by go_num,?_,?_,hb2⟩
       ·rw[zcB,uh HP1,uh HP2];exact hown'
       ·exact zeB hrs hown hgrow
      case measure=>simp[intOf];omega
     ·have EJ:=Hi (show j=E from by omega)
      have hjEi:¬(j:Int)<(n:Int)+1:=by omega
      go_wp2
      go_roundw
      case rel=>exact⟨k+1,by omega,by go_num,by rw[←uh HE,←uh EJ];exact hown,hrs,hbel⟩
      case measure=>simp[intOf];omega
  ·have ek:k=S.length:=by omega
   have e1:=Hi (show stN S n k=n+1 from by rw[uh HS];exact zdo (by rw[←uh HS];omega))
   rw[uh e1] at hown;clear hrs;have hkS:¬(k:Int)<(S.length:Int):=by omega
   go_wp2
   go_ret
   exact⟨_,rfl,hown,hbel⟩
def sN(S:List Int)(k:Nat):Nat:=(S.getD k 0).toNat
theorem zfm(S:List Int)(x:Int)(k:Nat)(h:k<S.length):sN (S++[x]) k=sN S k:=by simp[sN,List.getD,List.getElem?_append_left h]
theorem zd3(l:List Int)(m:Nat):(linesTo l m).2=sN (staTo l m) ((staTo l m).length-1)∧(linesTo l m).1.length+1=(staTo l m).length ∧
  ∀ k,k+1<(staTo l m).length→(linesTo l m).1.getD k []=cut l (sN (staTo l m) k) (toOf l (sN (staTo l m) (k+1)-1))∧sN (staTo l m) k≤toOf l (sN (staTo l m) (k+1)-1)∧1≤sN (staTo l m) (k+1)∧sN (staTo l m) (k+1)≤m:=by
 induction m with
 | zero=>refine⟨rfl,rfl,?_⟩;intro k hk;simp[staTo] at hk
 | succ m ih =>
  obtain⟨i1,i2,i3⟩:=ih;have hft:=zc8 l m;have hpos:=zbn l m
  cases he:enB l m
  ·rw[zcx he,zee he]
   refine⟨i1,i2,fun k hk=>?_⟩
   obtain⟨a1,a2,a3,a4⟩:=i3 k hk;exact⟨a1,a2,a3,by omega⟩
  ·rw[za9 he,zcf he]
   have hlast:sN (staTo l m++[(m:Int)+1]) (staTo l m).length=m+1:=by simp[sN,List.getD]
   refine⟨?_,by simp;omega,fun k hk=>?_⟩
   ·simp only[List.length_append,List.length_singleton,Nat.add_sub_cancel]
    exact hlast.symm
   ·rw[List.length_append,List.length_singleton] at hk
    by_cases hk1:k+1<(staTo l m).length
    ·obtain⟨a1,a2,a3,a4⟩:=i3 k hk1
     have e1:((linesTo l m).1++[cut l (linesTo l m).2 (toOf l m)]).getD k []=(linesTo l m).1.getD k []:=by
      simp[List.getD,List.getElem?_append_left (show k<(linesTo l m).1.length by omega)]
     simp only;rw[e1,zfm _ _ _ (by omega),zfm _ _ _ hk1]
     exact⟨a1,a2,a3,by omega⟩
    ·have ek:k+1=(staTo l m).length:=by omega
     have ek2:k=(linesTo l m).1.length:=by omega
     have ek3:k=(staTo l m).length-1:=by omega
     have e1:((linesTo l m).1++[cut l (linesTo l m).2 (toOf l m)]).getD k []=cut l (linesTo l m).2 (toOf l m):=by
      rw[ek2];simp[List.getD]
     simp only;rw[e1,zfm _ _ _ (by omega),ek,hlast,Nat.add_sub_cancel,ek3,←i1]
     exact⟨rfl,hft.1,by omega,by omega⟩
theorem zgu(l:List Int):(linesL l).length=(staTo l l.length).length:=by
 have:=(zd3 l l.length).2.1;unfold linesL;rw[List.length_append,List.length_singleton];exact this
theorem zhu(l:List Int)(k:Nat)(hk:k+1<(staTo l l.length).length):(linesL l).getD k []=cut l (sN (staTo l l.length) k) (toOf l (sN (staTo l l.length) (k+1)-1)):=by
 have h:=zd3 l l.length;unfold linesL;rw[←(h.2.2 k hk).1];simp[List.getD,List.getElem?_append_left (show k<(linesTo l l.length).1.length by omega)]
theorem ze8(l:List Int)(k:Nat)(hk:k+1=(staTo l l.length).length):(linesL l).getD k []=cut l (sN (staTo l l.length) k) l.length:=by
 have h:=zd3 l l.length;unfold linesL;have ek:k=(linesTo l l.length).1.length:=by omega
 have e2:k=(staTo l l.length).length-1:=by omega
 have:((linesTo l l.length).1++[l.drop (linesTo l l.length).2]).getD k []=l.drop (linesTo l l.length).2:=by rw[ek];simp[List.getD]
 rw[this,h.1,←e2];unfold cut;rw[List.take_of_length_le (by simp)]
theorem zj2(l:List Int)(sk e:Nat)(he:e<l.length)(hle:sk≤toOf l e):toOf l e=if (l.getD e 0==10)=true∧sk<e∧(l.getD (e-1) 0==13)=true then e-1 else e:=by
 unfold toOf at hle ⊢
 by_cases h:1≤e∧prB l (e-1)=true
 ·rw[if_pos h] at hle ⊢
  have h2:=h.2;simp only[prB,Bool.and_eq_true] at h2;rw[show e-1+1=e from by omega] at h2
  rw[if_pos ⟨h2.2,by omega,h2.1.2⟩]
 ·rw[if_neg h]
  rw[if_neg];rintro ⟨h1,h2,h3⟩
  apply h
  refine⟨by omega,?_⟩
  simp only[prB,Bool.and_eq_true];rw[show e-1+1=e from by omega]
  exact⟨⟨by simpa using he,h3⟩,h1⟩
theorem kept2{w w2:World}{base:Nat}{e1 e2:TypeId}{s2:Nat}{v v1:Value}{n m:Nat}{xs ys:List Value}{o:Obj}(hne:e1≠e2)(h:w.ownsRow base e1 1 v1 n xs)(hp:w.ownsRow base e2 s2 v m ys)(hg:(w.alloc o).grownBy w2 v.ownBlock):w2.ownsRow base e1 1 v1 n xs:=by
 refine (h.alloc o).kept hg ?_
 cases hv:v1.ownBlock with
 | none=>exact .inl rfl
 | some g =>
  refine .inr (fun e=>?_)
  rcases hp.2 with ⟨rfl,_⟩ | ⟨g2,cap2,cur2,rfl,_,hh2,_⟩
  ·cases e
  ·obtain rfl:=Option.some.inj e
   rcases h.2 with ⟨rfl,_⟩ | ⟨g',cap',cur',rfl,_,hh,_⟩
   ·cases hv
   ·obtain rfl:=Option.some.inj hv
    rw[hh2] at hh;simp at hh;exact hne hh.2.symm
theorem zgK(a:Option Addr)(n c:Nat)(l:List Int)(w:World)(h:Row .i32 w a n c l)(hn:n≤1099511627776) :
  Calls prog 166 #[.slice a n c] w fun e w'=>∃ v gs,e = .returned v∧LinesAt w' w.heap.size v gs (linesL l)∧Below w.heap.size w w':=by
 obtain⟨i0,hi,hz0,hz1,hz2⟩:=info_parts infoSl;obtain⟨j0,hj,hy0,hy1,hy2⟩:=info_parts info32;have hpp:=zbn l n;have HLn:=Hi h.len;have HLL:=Hi (zgu l);obtain⟨S,hS⟩:∃ S,S=staTo l n:=⟨_,rfl⟩;have HS:=Hi hS;rw[←hS] at hpp;have ST:=Hi (zdH a n c l w h hn);rw[←hS] at ST;clear hS
 go_enter func166,ntmps166
 go_wp2_with fail
 refine (uh ST).mono ?_
 rintro e w1 ⟨v1,rfl,ho1,hb1⟩;obtain⟨a1,c1,e1',_⟩:=zay ho1;subst e1';clear ST
 go_wp2
 go_loopw [3,5] (fun v i wr=>∃ (k:Nat) (gs:List Nat),k≤S.length∧i = .int .i64 k∧LinesAt wr w.heap.size v gs ((linesL l).take k)∧wr.ownsRow w.heap.size 3 1 (.slice a1 S.length c1) S.length (S.map (Value.int .i64))∧Below w.heap.size w wr) (fun _ i _=>S.length-(intOf i).toNat)
 case atStart=>exact⟨0,[],Nat.zero_le _,rfl,linesNil _ _,ho1,hb1⟩
 case round =>
  obtain⟨k,gs,hk,rfl,hat,hso,hbel⟩:=hrel;clear ho1 hb1
  by_cases hlt:k<S.length
  ·have hkl:k<(linesL l).length:=by rw[uh HLL,uh HLn,←uh HS];exact hlt
   have htk:(linesL l).take (k+1)=(linesL l).take k++[(linesL l).getD k []]:=by
    rw[List.take_succ_eq_append_getElem hkl];simp[List.getD,hkl]
   have hLk:((linesL l).take k).length≤k:=by simp;omega
   obtain⟨LT,hLT⟩:∃ LT,LT=(linesL l).take k:=⟨_,rfl⟩;rw[←hLT] at hat htk hLk
   rcases (zeP hso).at_ with h0 | ⟨b,off,e1,hbw,hcell⟩
   ·omega
   subst e1;have hck:=hcell k hlt;have hmem:S.getD k 0∈staTo l n:=by rw[uh HS];rw[uh HS] at hlt;simp[List.getD,hlt]
   have hsb:=zeT l n _ hmem;obtain⟨sk,hsk⟩:∃ sk,sk=sN S k:=⟨_,rfl⟩;have hski:S.getD k 0=(sk:Int):=by rw[hsk];unfold sN;omega
   rw[hski] at hck hsb;have hskn:sk≤n:=by omega
   have hkS:(k:Int)<(S.length:Int):=by omega
   have hle:=h.le
   by_cases hk1:k+1<S.length
   ·have hls:=(zd3 l n).2.2 k (by rw[←uh HS];exact hk1)
    have hin:=zhu l k (by rw[uh HLn,←uh HS];exact hk1)
    rw[uh HLn,←uh HS,←hsk] at hin;rw[←uh HS,←hsk] at hls;obtain⟨_,g2,g3,g4⟩:=hls;obtain⟨e,he⟩:∃ e,e=sN S (k+1)-1:=⟨_,rfl⟩;rw[←he] at hin g2;have hck1:=hcell (k+1) hk1;have hmem1:S.getD (k+1) 0∈staTo l n:=by rw[uh HS];rw[uh HS] at hk1;simp[List.getD,hk1]
    have hsb1:=zeT l n _ hmem1;have hs1:S.getD (k+1) 0=(e:Int)+1:=by rw[he];unfold sN at *;omega
    rw[hs1] at hck1;have hen:e<n:=by omega
    have href:=zj2 l sk e (by rw[uh HLn];exact hen) g2
    rcases h.at_ with h0 | ⟨cb,co,rfl,cbw,ccell⟩
    ·omega
    have hce:=(hbel.cell (p:=⟨cb,co+e,none⟩) cbw).trans (ccell e hen);have hce1:=(hbel.cell (p:=⟨cb,co+(e-1),none⟩) cbw).trans (ccell (e-1) (by omega))
    have HSUB:=Hi (fun (t:Nat) (h1:sk≤t) (h2:t≤n) (wx:World) (hwx:Below wr.heap.size wr wx)=>(Row.sub (k:=.i32) (w:=wr) (b:=cb) (off:=co) (c:=c) (uh HLn) hle h1 h2 (Nat.lt_of_lt_of_le cbw hbel.size) (fun i hi=>(hbel.cell (p:=⟨cb,co+i,none⟩) cbw).trans (ccell i hi))).below hwx)
    have hcne:¬c=sk:=by
     unfold toOf at g2
     split at g2 <;> omega
    obtain⟨x,hx⟩:∃ x,x=l.getD e 0:=⟨_,rfl⟩;obtain⟨y,hy⟩:∃ y,y=l.getD (e-1) 0:=⟨_,rfl⟩;rw[←hx] at hce href;rw[←hy] at hce1 href;have hk1i:(k:Int)+1<(S.length:Int):=by omega
    have hske:sk≤e:=by
     unfold toOf at g2
     split at g2 <;> omega
    have Htk:=Hi htk;have Hin:=Hi hin;have Href:=Hi href;clear hcell ccell hx hy hs1 hmem hmem1 hsb1 hsb hski hsk he g2 g3 g4 htk hin href hLT
    cases e10:(x==10)
    ·have HT:=Hi (show toOf l e=e from by rw[uh Href,e10];simp)
     have Hline:=Hi (show (linesL l).take (k+1)=LT++[cut l sk e] from by rw[uh Htk,uh Hin,uh HT])
     have hTs:sk≤e:=by omega
     have hTn:e≤n:=by omega
     have hcl:=zbW l sk (e) (by rw[uh HLn];omega)
     have Hcl:=Hi hcl;have hl1:((cut l sk (e)).map (Value.int .i32)).length=(e-sk) * 1:=by rw[List.length_map,uh Hcl,Nat.mul_one]
     have HRW:=Hi (show ∀ wx,Below wr.heap.size wr wx→Row .i32 wx (some ⟨cb,co+sk,none⟩) (e-sk) (c-sk) (cut l sk (e)) from fun wx hwx=>uh HSUB e hTs hTn wx hwx)
     have hown0:=hat.own;have HL1:=Hi hl1;clear hcl hl1
     go_wp2_with (first
      | (refine wpList_make_own _ rfl _ _ 109 rfl wr.heap.size 21 j0 (.int .i32 0) 1 underlying109 hj hy0 hy1 .i64 .i64 _ (e-sk) rfl rfl (by omega) (by rw[hy2];omega) (by unfold maxLen;omega) (lr _) ?_;intro w2 hmk hgr2;have hb2:=belowNone hgr2;obtain hck2:=(hb2.cell (p:=⟨b,off+k,none⟩) hbw).trans hck)
      | (at_builtin;refine wpList_append_fits_any _ rfl (.tmp 59) (.tmp 66) 109 rfl wr.heap.size 21 j0 1 underlying109 hj hy1 wr.heap.size 0 (e-sk) [] rfl hmk (some ⟨cb,co+sk,none⟩) (e-sk) (c-sk) ((cut l sk (e)).map (Value.int .i32)) rfl (uh HL1) (fun e=>by cases e) (uh HRW w2 hb2).cells (ints_oneCell _ _) (by omega) ?_;intro w3 hln3 hgr3;simp only[Nat.zero_add,List.nil_append] at hln3;have hb3:=hb2.grown hgr3 (Nat.le_trans (lr _) hb2.size) (fun x hx=>by obtain rfl:=Option.some.inj hx;exact lr _);have hown3:=zah hat.own hb3;have hck3:=(hb3.cell (p:=⟨b,off+k,none⟩) hbw).trans hck)
      | (at_builtin;refine wpList_append_own _ rfl (.tmp 68) (.tmp 70) 183 rfl w.heap.size 109 i0 (.slice none 0 0) 1 24 underlying183 hi hz0 hz1 hz2 rfl (by decide) _ _ _ rfl (hown3.alloc _) ⟨w3.heap.size,0,none⟩ 1 1 [.slice (some ⟨wr.heap.size,0,none⟩) (e-sk) (e-sk)] rfl rfl (cellv _ _ _) (zaC _ rfl) (by unfold maxLen;omega) (by omega) (by have:=Nat.le_trans hbel.size hb3.size;simp;omega) ?_;intro v' w4 hown4 hgr4 _))
     go_roundw
     case rel =>
      have e3:Value.slice (some ⟨wr.heap.size,0,none⟩) (e-sk) (e-sk)=lineVal wr.heap.size (cut l sk (e)):=by unfold lineVal;rw[uh Hcl]
      have hl2:w3.ownsRow w.heap.size 21 1 (lineVal wr.heap.size (cut l sk (e))) (cut l sk (e)).length ((cut l sk (e)).map (Value.int .i32)):=by
       unfold lineVal;rw[uh Hcl];exact zaS hln3 hbel.size
      rw[e3] at hown4;have R:=hat.snoc rfl hb3 hl2 hown4 hgr4;have hb4:Below w.heap.size w w4:=((hbel.trans (hb3.mono hbel.size)).alloc (Nat.le_trans hbel.size hb3.size) _).grown hgr4 (by have:=Nat.le_trans hbel.size hb3.size;simp;omega) (fun k hk=>(hown3.lt k hk).1)
      refine⟨k+1,gs++[wr.heap.size],by omega,by go_num,?_,kept2 (by decide) (zah hso hb3) hown3 hgr4,hb4⟩
      rw[uh Hline];exact R
     case measure=>simp[intOf];omega
    ·by_cases hgt:sk<e
     ·have hgi:(sk:Int)<(e:Int):=by omega
      cases e13:(y==13)
      ·have HT:=Hi (show toOf l e=e from by rw[uh Href,e13];simp)
       have Hline:=Hi (show (linesL l).take (k+1)=LT++[cut l sk e] from by rw[uh Htk,uh Hin,uh HT])
       have hTs:sk≤e:=by omega
       have hTn:e≤n:=by omega
       have hcl:=zbW l sk (e) (by rw[uh HLn];omega)
       have Hcl:=Hi hcl;have hl1:((cut l sk (e)).map (Value.int .i32)).length=(e-sk) * 1:=by rw[List.length_map,uh Hcl,Nat.mul_one]
       have HRW:=Hi (show ∀ wx,Below wr.heap.size wr wx→Row .i32 wx (some ⟨cb,co+sk,none⟩) (e-sk) (c-sk) (cut l sk (e)) from fun wx hwx=>uh HSUB e hTs hTn wx hwx)
       have hown0:=hat.own;have HL1:=Hi hl1;clear hcl hl1
       go_wp2_with (first
        | (refine wpList_make_own _ rfl _ _ 109 rfl wr.heap.size 21 j0 (.int .i32 0) 1 underlying109 hj hy0 hy1 .i64 .i64 _ (e-sk) rfl rfl (by omega) (by rw[hy2];omega) (by unfold maxLen;omega) (lr _) ?_;intro w2 hmk hgr2;have hb2:=belowNone hgr2;obtain hck2:=(hb2.cell (p:=⟨b,off+k,none⟩) hbw).trans hck)
        | (at_builtin;refine wpList_append_fits_any _ rfl (.tmp 59) (.tmp 66) 109 rfl wr.heap.size 21 j0 1 underlying109 hj hy1 wr.heap.size 0 (e-sk) [] rfl hmk (some ⟨cb,co+sk,none⟩) (e-sk) (c-sk) ((cut l sk (e)).map (Value.int .i32)) rfl (uh HL1) (fun e=>by cases e) (uh HRW w2 hb2).cells (ints_oneCell _ _) (by omega) ?_;intro w3 hln3 hgr3;simp only[Nat.zero_add,List.nil_append] at hln3;have hb3:=hb2.grown hgr3 (Nat.le_trans (lr _) hb2.size) (fun x hx=>by obtain rfl:=Option.some.inj hx;exact lr _);have hown3:=zah hat.own hb3;have hck3:=(hb3.cell (p:=⟨b,off+k,none⟩) hbw).trans hck)
        | (at_builtin;refine wpList_append_own _ rfl (.tmp 68) (.tmp 70) 183 rfl w.heap.size 109 i0 (.slice none 0 0) 1 24 underlying183 hi hz0 hz1 hz2 rfl (by decide) _ _ _ rfl (hown3.alloc _) ⟨w3.heap.size,0,none⟩ 1 1 [.slice (some ⟨wr.heap.size,0,none⟩) (e-sk) (e-sk)] rfl rfl (cellv _ _ _) (zaC _ rfl) (by unfold maxLen;omega) (by omega) (by have:=Nat.le_trans hbel.size hb3.size;simp;omega) ?_;intro v' w4 hown4 hgr4 _))
       go_roundw
       case rel =>
        have e3:Value.slice (some ⟨wr.heap.size,0,none⟩) (e-sk) (e-sk)=lineVal wr.heap.size (cut l sk (e)):=by unfold lineVal;rw[uh Hcl]
        have hl2:w3.ownsRow w.heap.size 21 1 (lineVal wr.heap.size (cut l sk (e))) (cut l sk (e)).length ((cut l sk (e)).map (Value.int .i32)):=by
         unfold lineVal;rw[uh Hcl];exact zaS hln3 hbel.size
        rw[e3] at hown4;have R:=hat.snoc rfl hb3 hl2 hown4 hgr4;have hb4:Below w.heap.size w w4:=((hbel.trans (hb3.mono hbel.size)).alloc (Nat.le_trans hbel.size hb3.size) _).grown hgr4 (by have:=Nat.le_trans hbel.size hb3.size;simp;omega) (fun k hk=>(hown3.lt k hk).1)
        refine⟨k+1,gs++[wr.heap.size],by omega,by go_num,?_,kept2 (by decide) (zah hso hb3) hown3 hgr4,hb4⟩
        rw[uh Hline];exact R
       case measure=>simp[intOf];omega
      ·have HT:=Hi (show toOf l e=e-1 from by rw[uh Href,e13,e10];simp[hgt])
       have Hline:=Hi (show (linesL l).take (k+1)=LT++[cut l sk (e-1)] from by rw[uh Htk,uh Hin,uh HT])
       have hTs:sk≤e-1:=by omega
       have hTn:e-1≤n:=by omega
       have hcl:=zbW l sk (e-1) (by rw[uh HLn];omega)
       have Hcl:=Hi hcl;have hl1:((cut l sk (e-1)).map (Value.int .i32)).length=(e-1-sk) * 1:=by rw[List.length_map,uh Hcl,Nat.mul_one]
       have HRW:=Hi (show ∀ wx,Below wr.heap.size wr wx→Row .i32 wx (some ⟨cb,co+sk,none⟩) (e-1-sk) (c-sk) (cut l sk (e-1)) from fun wx hwx=>uh HSUB (e-1) hTs hTn wx hwx)
       have hown0:=hat.own;have HL1:=Hi hl1;clear hcl hl1
       go_wp2_with (first
        | (refine wpList_make_own _ rfl _ _ 109 rfl wr.heap.size 21 j0 (.int .i32 0) 1 underlying109 hj hy0 hy1 .i64 .i64 _ (e-1-sk) rfl rfl (by omega) (by rw[hy2];omega) (by unfold maxLen;omega) (lr _) ?_;intro w2 hmk hgr2;have hb2:=belowNone hgr2;obtain hck2:=(hb2.cell (p:=⟨b,off+k,none⟩) hbw).trans hck)
        | (at_builtin;refine wpList_append_fits_any _ rfl (.tmp 59) (.tmp 66) 109 rfl wr.heap.size 21 j0 1 underlying109 hj hy1 wr.heap.size 0 (e-1-sk) [] rfl hmk (some ⟨cb,co+sk,none⟩) (e-1-sk) (c-sk) ((cut l sk (e-1)).map (Value.int .i32)) rfl (uh HL1) (fun e=>by cases e) (uh HRW w2 hb2).cells (ints_oneCell _ _) (by omega) ?_;intro w3 hln3 hgr3;simp only[Nat.zero_add,List.nil_append] at hln3;have hb3:=hb2.grown hgr3 (Nat.le_trans (lr _) hb2.size) (fun x hx=>by obtain rfl:=Option.some.inj hx;exact lr _);have hown3:=zah hat.own hb3;have hck3:=(hb3.cell (p:=⟨b,off+k,none⟩) hbw).trans hck)
        | (at_builtin;refine wpList_append_own _ rfl (.tmp 68) (.tmp 70) 183 rfl w.heap.size 109 i0 (.slice none 0 0) 1 24 underlying183 hi hz0 hz1 hz2 rfl (by decide) _ _ _ rfl (hown3.alloc _) ⟨w3.heap.size,0,none⟩ 1 1 [.slice (some ⟨wr.heap.size,0,none⟩) (e-1-sk) (e-1-sk)] rfl rfl (cellv _ _ _) (zaC _ rfl) (by unfold maxLen;omega) (by omega) (by have:=Nat.le_trans hbel.size hb3.size;simp;omega) ?_;intro v' w4 hown4 hgr4 _))
       go_roundw
       case rel =>
        have e3:Value.slice (some ⟨wr.heap.size,0,none⟩) (e-1-sk) (e-1-sk)=lineVal wr.heap.size (cut l sk (e-1)):=by unfold lineVal;rw[uh Hcl]
        have hl2:w3.ownsRow w.heap.size 21 1 (lineVal wr.heap.size (cut l sk (e-1))) (cut l sk (e-1)).length ((cut l sk (e-1)).map (Value.int .i32)):=by
         unfold lineVal;rw[uh Hcl];exact zaS hln3 hbel.size
        rw[e3] at hown4;have R:=hat.snoc rfl hb3 hl2 hown4 hgr4;have hb4:Below w.heap.size w w4:=((hbel.trans (hb3.mono hbel.size)).alloc (Nat.le_trans hbel.size hb3.size) _).grown hgr4 (by have:=Nat.le_trans hbel.size hb3.size;simp;omega) (fun k hk=>(hown3.lt k hk).1)
        refine⟨k+1,gs++[wr.heap.size],by omega,by go_num,?_,kept2 (by decide) (zah hso hb3) hown3 hgr4,hb4⟩
        rw[uh Hline];exact R
       case measure=>simp[intOf];omega
     ·have hgi:¬(sk:Int)<(e:Int):=by omega
      have HT:=Hi (show toOf l e=e from by rw[uh Href];simp[hgt])
      have Hline:=Hi (show (linesL l).take (k+1)=LT++[cut l sk e] from by rw[uh Htk,uh Hin,uh HT])
      have hTs:sk≤e:=by omega
      have hTn:e≤n:=by omega
      have hcl:=zbW l sk (e) (by rw[uh HLn];omega)
      have Hcl:=Hi hcl;have hl1:((cut l sk (e)).map (Value.int .i32)).length=(e-sk) * 1:=by rw[List.length_map,uh Hcl,Nat.mul_one]
      have HRW:=Hi (show ∀ wx,Below wr.heap.size wr wx→Row .i32 wx (some ⟨cb,co+sk,none⟩) (e-sk) (c-sk) (cut l sk (e)) from fun wx hwx=>uh HSUB e hTs hTn wx hwx)
      have hown0:=hat.own;have HL1:=Hi hl1;clear hcl hl1
      go_wp2_with (first
       | (refine wpList_make_own _ rfl _ _ 109 rfl wr.heap.size 21 j0 (.int .i32 0) 1 underlying109 hj hy0 hy1 .i64 .i64 _ (e-sk) rfl rfl (by omega) (by rw[hy2];omega) (by unfold maxLen;omega) (lr _) ?_;intro w2 hmk hgr2;have hb2:=belowNone hgr2;obtain hck2:=(hb2.cell (p:=⟨b,off+k,none⟩) hbw).trans hck)
       | (at_builtin;refine wpList_append_fits_any _ rfl (.tmp 59) (.tmp 66) 109 rfl wr.heap.size 21 j0 1 underlying109 hj hy1 wr.heap.size 0 (e-sk) [] rfl hmk (some ⟨cb,co+sk,none⟩) (e-sk) (c-sk) ((cut l sk (e)).map (Value.int .i32)) rfl (uh HL1) (fun e=>by cases e) (uh HRW w2 hb2).cells (ints_oneCell _ _) (by omega) ?_;intro w3 hln3 hgr3;simp only[Nat.zero_add,List.nil_append] at hln3;have hb3:=hb2.grown hgr3 (Nat.le_trans (lr _) hb2.size) (fun x hx=>by obtain rfl:=Option.some.inj hx;exact lr _);have hown3:=zah hat.own hb3;have hck3:=(hb3.cell (p:=⟨b,off+k,none⟩) hbw).trans hck)
       | (at_builtin;refine wpList_append_own _ rfl (.tmp 68) (.tmp 70) 183 rfl w.heap.size 109 i0 (.slice none 0 0) 1 24 underlying183 hi hz0 hz1 hz2 rfl (by decide) _ _ _ rfl (hown3.alloc _) ⟨w3.heap.size,0,none⟩ 1 1 [.slice (some ⟨wr.heap.size,0,none⟩) (e-sk) (e-sk)] rfl rfl (cellv _ _ _) (zaC _ rfl) (by unfold maxLen;omega) (by omega) (by have:=Nat.le_trans hbel.size hb3.size;simp;omega) ?_;intro v' w4 hown4 hgr4 _))
      go_roundw
      case rel =>
       have e3:Value.slice (some ⟨wr.heap.size,0,none⟩) (e-sk) (e-sk)=lineVal wr.heap.size (cut l sk (e)):=by unfold lineVal;rw[uh Hcl]
       have hl2:w3.ownsRow w.heap.size 21 1 (lineVal wr.heap.size (cut l sk (e))) (cut l sk (e)).length ((cut l sk (e)).map (Value.int .i32)):=by
        unfold lineVal;rw[uh Hcl];exact zaS hln3 hbel.size
       rw[e3] at hown4;have R:=hat.snoc rfl hb3 hl2 hown4 hgr4;have hb4:Below w.heap.size w w4:=((hbel.trans (hb3.mono hbel.size)).alloc (Nat.le_trans hbel.size hb3.size) _).grown hgr4 (by have:=Nat.le_trans hbel.size hb3.size;simp;omega) (fun k hk=>(hown3.lt k hk).1)
       refine⟨k+1,gs++[wr.heap.size],by omega,by go_num,?_,kept2 (by decide) (zah hso hb3) hown3 hgr4,hb4⟩
       rw[uh Hline];exact R
      case measure=>simp[intOf];omega
   ·have hin:=ze8 l k (by rw[uh HLn,←uh HS];omega)
    rw[uh HLn,←uh HS,←hsk] at hin;have hk1i:¬(k:Int)+1<(S.length:Int):=by omega
    have Hline:=Hi (show (linesL l).take (k+1)=LT++[cut l sk n] from by rw[htk,hin])
    clear hcell hmem hsb hski hsk htk hin hLT
    by_cases hpos:0<n
    ·rcases h.at_ with h0 | ⟨cb,co,rfl,cbw,ccell⟩
     ·omega
     by_cases hcs:c=sk
     ·have hns:n=sk:=by omega
      subst hcs;subst hns;have hnil:cut l n n=[]:=by unfold cut;simp
      rw[hnil] at Hline;clear ccell hnil;have Hcl:=Hi (show ([]:List Int).length=0 from rfl)
      have hl1:((([]:List Int)).map (Value.int .i32)).length=0 * 1:=rfl;have HRW:=Hi (show ∀ wx,Below wr.heap.size wr wx→Row .i32 wx (some ⟨cb,co,none⟩) 0 (0) [] from fun wx hwx=>rowZ rfl (fun e=>by cases e))
      have hown0:=hat.own;have HL1:=Hi hl1;clear hl1
      go_wp2_with (first
       | (refine wpList_make_own _ rfl _ _ 109 rfl wr.heap.size 21 j0 (.int .i32 0) 1 underlying109 hj hy0 hy1 .i64 .i64 _ 0 rfl rfl (by omega) (by rw[hy2];omega) (by unfold maxLen;omega) (lr _) ?_;intro w2 hmk hgr2;have hb2:=belowNone hgr2;obtain hck2:=(hb2.cell (p:=⟨b,off+k,none⟩) hbw).trans hck)
       | (at_builtin;refine wpList_append_fits_any _ rfl (.tmp 59) (.tmp 66) 109 rfl wr.heap.size 21 j0 1 underlying109 hj hy1 wr.heap.size 0 0 [] rfl hmk (some ⟨cb,co,none⟩) 0 (0) (([]:List Int).map (Value.int .i32)) rfl (uh HL1) (fun e=>⟨rfl,(fun e=>by cases e) e⟩) (uh HRW w2 hb2).cells (ints_oneCell _ _) (by omega) ?_;intro w3 hln3 hgr3;simp only[Nat.zero_add,List.nil_append] at hln3;have hb3:=hb2.grown hgr3 (Nat.le_trans (lr _) hb2.size) (fun x hx=>by obtain rfl:=Option.some.inj hx;exact lr _);have hown3:=zah hat.own hb3;have hck3:=(hb3.cell (p:=⟨b,off+k,none⟩) hbw).trans hck)
       | (at_builtin;refine wpList_append_own _ rfl (.tmp 68) (.tmp 70) 183 rfl w.heap.size 109 i0 (.slice none 0 0) 1 24 underlying183 hi hz0 hz1 hz2 rfl (by decide) _ _ _ rfl (hown3.alloc _) ⟨w3.heap.size,0,none⟩ 1 1 [.slice (some ⟨wr.heap.size,0,none⟩) 0 0] rfl rfl (cellv _ _ _) (zaC _ rfl) (by unfold maxLen;omega) (by omega) (by have:=Nat.le_trans hbel.size hb3.size;simp;omega) ?_;intro v' w4 hown4 hgr4 _))
      go_roundw
      case rel =>
       have e3:Value.slice (some ⟨wr.heap.size,0,none⟩) 0 0=lineVal wr.heap.size ([]:List Int):=by unfold lineVal;rw[uh Hcl]
       have hl2:w3.ownsRow w.heap.size 21 1 (lineVal wr.heap.size ([]:List Int)) ([]:List Int).length (([]:List Int).map (Value.int .i32)):=by
        unfold lineVal;rw[uh Hcl];exact zaS hln3 hbel.size
       rw[e3] at hown4;have R:=hat.snoc rfl hb3 hl2 hown4 hgr4;have hb4:Below w.heap.size w w4:=((hbel.trans (hb3.mono hbel.size)).alloc (Nat.le_trans hbel.size hb3.size) _).grown hgr4 (by have:=Nat.le_trans hbel.size hb3.size;simp;omega) (fun k hk=>(hown3.lt k hk).1)
       refine⟨k+1,gs++[wr.heap.size],by omega,by go_num,?_,kept2 (by decide) (zah hso hb3) hown3 hgr4,hb4⟩
       rw[uh Hline];exact R
      case measure=>simp[intOf];omega
     ·have HSUB:=Hi (fun (t:Nat) (h1:sk≤t) (h2:t≤n) (wx:World) (hwx:Below wr.heap.size wr wx)=>(Row.sub (k:=.i32) (w:=wr) (b:=cb) (off:=co) (c:=c) (uh HLn) hle h1 h2 (Nat.lt_of_lt_of_le cbw hbel.size) (fun i hi=>(hbel.cell (p:=⟨cb,co+i,none⟩) cbw).trans (ccell i hi))).below hwx)
      clear ccell;have hTs:sk≤n:=by omega
      have hTn:n≤n:=by omega
      have hcl:=zbW l sk (n) (by rw[uh HLn];omega)
      have Hcl:=Hi hcl;have hl1:((cut l sk (n)).map (Value.int .i32)).length=(n-sk) * 1:=by rw[List.length_map,uh Hcl,Nat.mul_one]
      have HRW:=Hi (show ∀ wx,Below wr.heap.size wr wx→Row .i32 wx (some ⟨cb,co+sk,none⟩) (n-sk) (c-sk) (cut l sk (n)) from fun wx hwx=>uh HSUB n hTs hTn wx hwx)
      have hown0:=hat.own;have HL1:=Hi hl1;clear hcl hl1
      go_wp2_with (first
       | (refine wpList_make_own _ rfl _ _ 109 rfl wr.heap.size 21 j0 (.int .i32 0) 1 underlying109 hj hy0 hy1 .i64 .i64 _ (n-sk) rfl rfl (by omega) (by rw[hy2];omega) (by unfold maxLen;omega) (lr _) ?_;intro w2 hmk hgr2;have hb2:=belowNone hgr2;obtain hck2:=(hb2.cell (p:=⟨b,off+k,none⟩) hbw).trans hck)
       | (at_builtin;refine wpList_append_fits_any _ rfl (.tmp 59) (.tmp 66) 109 rfl wr.heap.size 21 j0 1 underlying109 hj hy1 wr.heap.size 0 (n-sk) [] rfl hmk (some ⟨cb,co+sk,none⟩) (n-sk) (c-sk) ((cut l sk (n)).map (Value.int .i32)) rfl (uh HL1) (fun e=>by cases e) (uh HRW w2 hb2).cells (ints_oneCell _ _) (by omega) ?_;intro w3 hln3 hgr3;simp only[Nat.zero_add,List.nil_append] at hln3;have hb3:=hb2.grown hgr3 (Nat.le_trans (lr _) hb2.size) (fun x hx=>by obtain rfl:=Option.some.inj hx;exact lr _);have hown3:=zah hat.own hb3;have hck3:=(hb3.cell (p:=⟨b,off+k,none⟩) hbw).trans hck)
       | (at_builtin;refine wpList_append_own _ rfl (.tmp 68) (.tmp 70) 183 rfl w.heap.size 109 i0 (.slice none 0 0) 1 24 underlying183 hi hz0 hz1 hz2 rfl (by decide) _ _ _ rfl (hown3.alloc _) ⟨w3.heap.size,0,none⟩ 1 1 [.slice (some ⟨wr.heap.size,0,none⟩) (n-sk) (n-sk)] rfl rfl (cellv _ _ _) (zaC _ rfl) (by unfold maxLen;omega) (by omega) (by have:=Nat.le_trans hbel.size hb3.size;simp;omega) ?_;intro v' w4 hown4 hgr4 _))
      go_roundw
      case rel =>
       have e3:Value.slice (some ⟨wr.heap.size,0,none⟩) (n-sk) (n-sk)=lineVal wr.heap.size (cut l sk (n)):=by unfold lineVal;rw[uh Hcl]
       have hl2:w3.ownsRow w.heap.size 21 1 (lineVal wr.heap.size (cut l sk (n))) (cut l sk (n)).length ((cut l sk (n)).map (Value.int .i32)):=by
        unfold lineVal;rw[uh Hcl];exact zaS hln3 hbel.size
       rw[e3] at hown4;have R:=hat.snoc rfl hb3 hl2 hown4 hgr4;have hb4:Below w.heap.size w w4:=((hbel.trans (hb3.mono hbel.size)).alloc (Nat.le_trans hbel.size hb3.size) _).grown hgr4 (by have:=Nat.le_trans hbel.size hb3.size;simp;omega) (fun k hk=>(hown3.lt k hk).1)
       refine⟨k+1,gs++[wr.heap.size],by omega,by go_num,?_,kept2 (by decide) (zah hso hb3) hown3 hgr4,hb4⟩
       rw[uh Hline];exact R
      case measure=>simp[intOf];omega
    ·have hn0:n=0:=by omega
     have hs0:sk=0:=by omega
     subst hn0;subst hs0;have hnil:cut l 0 0=[]:=by unfold cut;simp
     rw[hnil] at Hline;have hnl:=h.nil
     cases a with
     | none =>
      have hc0:c=0:=hnl rfl;subst hc0;clear hnl h hnil;have Hcl:=Hi (show ([]:List Int).length=0 from rfl)
      have hl1:((([]:List Int)).map (Value.int .i32)).length=0 * 1:=rfl;have HRW:=Hi (show ∀ wx,Below wr.heap.size wr wx→Row .i32 wx (none) 0 (0) [] from fun wx hwx=>rowZ rfl (fun _=>rfl))
      have hown0:=hat.own;have HL1:=Hi hl1;clear hl1
      go_wp2_with (first
       | (refine wpList_make_own _ rfl _ _ 109 rfl wr.heap.size 21 j0 (.int .i32 0) 1 underlying109 hj hy0 hy1 .i64 .i64 _ 0 rfl rfl (by omega) (by rw[hy2];omega) (by unfold maxLen;omega) (lr _) ?_;intro w2 hmk hgr2;have hb2:=belowNone hgr2;obtain hck2:=(hb2.cell (p:=⟨b,off+k,none⟩) hbw).trans hck)
       | (at_builtin;refine wpList_append_fits_any _ rfl (.tmp 59) (.tmp 66) 109 rfl wr.heap.size 21 j0 1 underlying109 hj hy1 wr.heap.size 0 0 [] rfl hmk (none) 0 (0) (([]:List Int).map (Value.int .i32)) rfl (uh HL1) (fun e=>⟨rfl,(fun _=>rfl) e⟩) (uh HRW w2 hb2).cells (ints_oneCell _ _) (by omega) ?_;intro w3 hln3 hgr3;simp only[Nat.zero_add,List.nil_append] at hln3;have hb3:=hb2.grown hgr3 (Nat.le_trans (lr _) hb2.size) (fun x hx=>by obtain rfl:=Option.some.inj hx;exact lr _);have hown3:=zah hat.own hb3;have hck3:=(hb3.cell (p:=⟨b,off+k,none⟩) hbw).trans hck)
       | (at_builtin;refine wpList_append_own _ rfl (.tmp 68) (.tmp 70) 183 rfl w.heap.size 109 i0 (.slice none 0 0) 1 24 underlying183 hi hz0 hz1 hz2 rfl (by decide) _ _ _ rfl (hown3.alloc _) ⟨w3.heap.size,0,none⟩ 1 1 [.slice (some ⟨wr.heap.size,0,none⟩) 0 0] rfl rfl (cellv _ _ _) (zaC _ rfl) (by unfold maxLen;omega) (by omega) (by have:=Nat.le_trans hbel.size hb3.size;simp;omega) ?_;intro v' w4 hown4 hgr4 _))
      go_roundw
      case rel =>
       have e3:Value.slice (some ⟨wr.heap.size,0,none⟩) 0 0=lineVal wr.heap.size ([]:List Int):=by unfold lineVal;rw[uh Hcl]
       have hl2:w3.ownsRow w.heap.size 21 1 (lineVal wr.heap.size ([]:List Int)) ([]:List Int).length (([]:List Int).map (Value.int .i32)):=by
        unfold lineVal;rw[uh Hcl];exact zaS hln3 hbel.size
       rw[e3] at hown4;have R:=hat.snoc rfl hb3 hl2 hown4 hgr4;have hb4:Below w.heap.size w w4:=((hbel.trans (hb3.mono hbel.size)).alloc (Nat.le_trans hbel.size hb3.size) _).grown hgr4 (by have:=Nat.le_trans hbel.size hb3.size;simp;omega) (fun k hk=>(hown3.lt k hk).1)
       refine⟨k+1,gs++[wr.heap.size],by omega,by go_num,?_,kept2 (by decide) (zah hso hb3) hown3 hgr4,hb4⟩
       rw[uh Hline];exact R
      case measure=>simp[intOf];omega
     | some ad =>
      by_cases hc0:c=0
      ·subst hc0
       clear hnl h hnil;have Hcl:=Hi (show ([]:List Int).length=0 from rfl)
       have hl1:((([]:List Int)).map (Value.int .i32)).length=0 * 1:=rfl;have HRW:=Hi (show ∀ wx,Below wr.heap.size wr wx→Row .i32 wx (some ad) 0 (0) [] from fun wx hwx=>rowZ rfl (fun e=>by cases e))
       have hown0:=hat.own;have HL1:=Hi hl1;clear hl1
       go_wp2_with (first
        | (refine wpList_make_own _ rfl _ _ 109 rfl wr.heap.size 21 j0 (.int .i32 0) 1 underlying109 hj hy0 hy1 .i64 .i64 _ 0 rfl rfl (by omega) (by rw[hy2];omega) (by unfold maxLen;omega) (lr _) ?_;intro w2 hmk hgr2;have hb2:=belowNone hgr2;obtain hck2:=(hb2.cell (p:=⟨b,off+k,none⟩) hbw).trans hck)
        | (at_builtin;refine wpList_append_fits_any _ rfl (.tmp 59) (.tmp 66) 109 rfl wr.heap.size 21 j0 1 underlying109 hj hy1 wr.heap.size 0 0 [] rfl hmk (some ad) 0 (0) (([]:List Int).map (Value.int .i32)) rfl (uh HL1) (fun e=>⟨rfl,(fun e=>by cases e) e⟩) (uh HRW w2 hb2).cells (ints_oneCell _ _) (by omega) ?_;intro w3 hln3 hgr3;simp only[Nat.zero_add,List.nil_append] at hln3;have hb3:=hb2.grown hgr3 (Nat.le_trans (lr _) hb2.size) (fun x hx=>by obtain rfl:=Option.some.inj hx;exact lr _);have hown3:=zah hat.own hb3;have hck3:=(hb3.cell (p:=⟨b,off+k,none⟩) hbw).trans hck)
        | (at_builtin;refine wpList_append_own _ rfl (.tmp 68) (.tmp 70) 183 rfl w.heap.size 109 i0 (.slice none 0 0) 1 24 underlying183 hi hz0 hz1 hz2 rfl (by decide) _ _ _ rfl (hown3.alloc _) ⟨w3.heap.size,0,none⟩ 1 1 [.slice (some ⟨wr.heap.size,0,none⟩) 0 0] rfl rfl (cellv _ _ _) (zaC _ rfl) (by unfold maxLen;omega) (by omega) (by have:=Nat.le_trans hbel.size hb3.size;simp;omega) ?_;intro v' w4 hown4 hgr4 _))
       go_roundw
       case rel =>
        have e3:Value.slice (some ⟨wr.heap.size,0,none⟩) 0 0=lineVal wr.heap.size ([]:List Int):=by unfold lineVal;rw[uh Hcl]
        have hl2:w3.ownsRow w.heap.size 21 1 (lineVal wr.heap.size ([]:List Int)) ([]:List Int).length (([]:List Int).map (Value.int .i32)):=by
         unfold lineVal;rw[uh Hcl];exact zaS hln3 hbel.size
        rw[e3] at hown4;have R:=hat.snoc rfl hb3 hl2 hown4 hgr4;have hb4:Below w.heap.size w w4:=((hbel.trans (hb3.mono hbel.size)).alloc (Nat.le_trans hbel.size hb3.size) _).grown hgr4 (by have:=Nat.le_trans hbel.size hb3.size;simp;omega) (fun k hk=>(hown3.lt k hk).1)
        refine⟨k+1,gs++[wr.heap.size],by omega,by go_num,?_,kept2 (by decide) (zah hso hb3) hown3 hgr4,hb4⟩
        rw[uh Hline];exact R
       case measure=>simp[intOf];omega
      ·clear hnl h hnil
       have Hcl:=Hi (show ([]:List Int).length=0 from rfl)
       have hl1:((([]:List Int)).map (Value.int .i32)).length=0 * 1:=rfl;have HRW:=Hi (show ∀ wx,Below wr.heap.size wr wx→Row .i32 wx (some ad) 0 (c) [] from fun wx hwx=>rowZ rfl (fun e=>by cases e))
       have hown0:=hat.own;have HL1:=Hi hl1;clear hl1
       go_wp2_with (first
        | (refine wpList_make_own _ rfl _ _ 109 rfl wr.heap.size 21 j0 (.int .i32 0) 1 underlying109 hj hy0 hy1 .i64 .i64 _ 0 rfl rfl (by omega) (by rw[hy2];omega) (by unfold maxLen;omega) (lr _) ?_;intro w2 hmk hgr2;have hb2:=belowNone hgr2;obtain hck2:=(hb2.cell (p:=⟨b,off+k,none⟩) hbw).trans hck)
        | (at_builtin;refine wpList_append_fits_any _ rfl (.tmp 59) (.tmp 66) 109 rfl wr.heap.size 21 j0 1 underlying109 hj hy1 wr.heap.size 0 0 [] rfl hmk (some ad) 0 (c) (([]:List Int).map (Value.int .i32)) rfl (uh HL1) (fun e=>⟨rfl,(fun e=>by cases e) e⟩) (uh HRW w2 hb2).cells (ints_oneCell _ _) (by omega) ?_;intro w3 hln3 hgr3;simp only[Nat.zero_add,List.nil_append] at hln3;have hb3:=hb2.grown hgr3 (Nat.le_trans (lr _) hb2.size) (fun x hx=>by obtain rfl:=Option.some.inj hx;exact lr _);have hown3:=zah hat.own hb3;have hck3:=(hb3.cell (p:=⟨b,off+k,none⟩) hbw).trans hck)
        | (at_builtin;refine wpList_append_own _ rfl (.tmp 68) (.tmp 70) 183 rfl w.heap.size 109 i0 (.slice none 0 0) 1 24 underlying183 hi hz0 hz1 hz2 rfl (by decide) _ _ _ rfl (hown3.alloc _) ⟨w3.heap.size,0,none⟩ 1 1 [.slice (some ⟨wr.heap.size,0,none⟩) 0 0] rfl rfl (cellv _ _ _) (zaC _ rfl) (by unfold maxLen;omega) (by omega) (by have:=Nat.le_trans hbel.size hb3.size;simp;omega) ?_;intro v' w4 hown4 hgr4 _))
       go_roundw
       case rel =>
        have e3:Value.slice (some ⟨wr.heap.size,0,none⟩) 0 0=lineVal wr.heap.size ([]:List Int):=by unfold lineVal;rw[uh Hcl]
        have hl2:w3.ownsRow w.heap.size 21 1 (lineVal wr.heap.size ([]:List Int)) ([]:List Int).length (([]:List Int).map (Value.int .i32)):=by
         unfold lineVal;rw[uh Hcl];exact zaS hln3 hbel.size
        rw[e3] at hown4;have R:=hat.snoc rfl hb3 hl2 hown4 hgr4;have hb4:Below w.heap.size w w4:=((hbel.trans (hb3.mono hbel.size)).alloc (Nat.le_trans hbel.size hb3.size) _).grown hgr4 (by have:=Nat.le_trans hbel.size hb3.size;simp;omega) (fun k hk=>(hown3.lt k hk).1)
        refine⟨k+1,gs++[wr.heap.size],by omega,by go_num,?_,kept2 (by decide) (zah hso hb3) hown3 hgr4,hb4⟩
        rw[uh Hline];exact R
       case measure=>simp[intOf];omega
  ·have ek:k=S.length:=by omega
   have hall:(linesL l).take k=linesL l:=List.take_of_length_le (by rw[uh HLL,uh HLn,←uh HS];omega)
   rw[hall] at hat;have hkS:¬(k:Int)<(S.length:Int):=by omega
   clear hso hall
   go_wp2
   go_ret
   first | exact⟨_,gs,rfl,hat,hbel⟩ | exact⟨_,rfl,⟨gs,hat⟩,hbel⟩
end mem
namespace sv
open mem
open ints (Hi uh soP)
theorem zj6(c:Int)(w:World):Calls prog 193 #[.int .i32 c] w fun e w'=>e = .returned (.bool (whB c))∧w'=w:=by
 unfold whB
 by_cases h9:c=9
 ·subst h9
  go_enter func193,ntmps193
  go_wp2
  go_ret
  exact⟨rfl,rfl⟩
 ·have b9:(c==9)=false:=by simp[h9]
  rw[b9]
  go_enter func193,ntmps193
  go_wp2
  go_ret
  exact⟨rfl,rfl⟩
theorem zdE(a:Option Addr)(n c:Nat)(l:List Int)(w:World)(h:Row .i32 w a n c l)(hn:n≤9223372036854775806) :
  Calls prog 189 #[.slice a n c] w fun e w'=>e = .returned (.int .i64 (ind l:Nat))∧w'=w:=by
 have HL:=Hi h.len
 go_enter func189,ntmps189
 go_wp2
 go_loopw [3] (fun i wr=>∃ k:Nat,k≤n∧i = .int .i64 k∧wr=w∧Hid (∀ j,j<k→whB (l.getD j 0)=true)) (fun i _=>n-(intOf i).toNat)
 case atStart=>exact⟨0,Nat.zero_le _,rfl,rfl,Hi (fun j hj=>by omega)⟩
 case round =>
  obtain⟨k,hk,rfl,rfl,hw⟩:=hrel
  by_cases hlt:k<n
  ·rcases h.at_ with h0 | ⟨b,off,rfl,hbw,hcell⟩
   ·omega
   have c1:=hcell k hlt;obtain⟨x,hx⟩:∃ x,x=l.getD k 0:=⟨_,rfl⟩;rw[←hx] at c1;have Hx:=Hi hx;clear hx hcell;have W:=Hi (fun W=>zj6 x W)
   cases hwb:whB x
   ·rw[hwb] at W
    have Hw:=Hi hwb;clear hwb
    go_wp2_with fail
    refine (uh W _).mono ?_
    rintro e w1 ⟨rfl,rfl⟩
    go_wp2
    go_ret
    have e:ind l=k:=zd1 l k (by rw[uh HL];exact hlt) (uh hw) (by rw[←uh Hx];exact uh Hw)
    rw[e];exact⟨rfl,rfl⟩
   ·rw[hwb] at W
    have Hw:=Hi hwb;clear hwb
    go_wp2_with fail
    refine (uh W _).mono ?_
    rintro e w1 ⟨rfl,rfl⟩
    go_wp2
    refine⟨⟨k+1,by omega,rfl,trivial,Hi (fun j hj=>?_)⟩,by simp only[intOf];omega⟩
    by_cases e:j=k
    ·subst e;rw[←uh Hx];exact uh Hw
    ·exact uh hw j (by omega)
  ·obtain rfl:k=n:=by omega
   go_wp2
   go_ret
   have e:ind l=k:=by rw[zhk l (fun j hj=>uh hw j (by rw[←uh HL];exact hj)),uh HL]
   rw[e];exact⟨rfl,rfl⟩
theorem zdl(a:Option Addr)(n c:Nat)(l:List Int)(w:World)(h:Row .i32 w a n c l)(hn:n≤9223372036854775806) :
  Calls prog 180 #[.slice a n c] w fun e w'=>e = .returned (.bool (blk l))∧w'=w:=by
 have I:=Hi (fun W (hW:Row .i32 W a n c l)=>zdE a n c l W hW hn)
 have e:blk l=(((ind l:Nat):Int)==(n:Int)):=by
  rw[zco,h.len,Bool.eq_iff_iff,beq_iff_eq,beq_iff_eq];omega
 rw[e];obtain⟨m,hm⟩:∃ m,m=ind l:=⟨_,rfl⟩;rw[←hm] at I ⊢;clear e hm
 go_enter func180,ntmps180
 go_wp2_with fail
 refine (uh I _ h).mono ?_
 rintro e w1 ⟨rfl,rfl⟩;clear I
 go_wp2
 go_ret
 exact⟨rfl,rfl⟩
open ints (Hi uh)
structure LnR (w:World) (b off n c:Nat) (L:List (List Int)):Prop where
 len:L.length=n
 le:n≤c
 lt:b<w.heap.size
 at_:∀ i,i<n→∃ ai ci,w.cell? ⟨b,off+i,none⟩=some (.slice ai (L.getD i []).length ci)∧Row .i32 w ai (L.getD i []).length ci (L.getD i [])
theorem LnR.of{w:World}{b off n c:Nat}{L:List (List Int)}(h:Lns w b off n c L):LnR w b off n c L:=
 ⟨h.len,h.le,h.lt,fun i hi=>by obtain⟨ai,ci,h1,h2,_⟩:=h.at_ i hi;exact⟨ai,ci,h1,h2⟩⟩
structure LnO (w:World) (base:Nat) (v:Value) (vs:List Value) (L:List (List Int)):Prop where
 len:vs.length=L.length
 own:w.ownsRow base 109 1 v L.length vs
 each:∀ i,i<L.length→w.ownsRow base 21 1 (vs.getD i (.slice none 0 0)) (L.getD i []).length ((L.getD i []).map (Value.int .i32))
theorem LnO.nil(w:World)(base:Nat):LnO w base (.slice none 0 0) [] []:=⟨rfl,World.ownsRow_nil _ _ _ _,fun i hi=>by simp at hi⟩
theorem LnO.below{w w':World}{base:Nat}{v:Value}{vs:List Value}{L:List (List Int)}(h:LnO w base v vs L)(hb:Below w.heap.size w w'):LnO w' base v vs L:=
 ⟨h.len,zah h.own hb,fun i hi=>zah (h.each i hi) hb⟩
theorem LnO.read{w:World}{base:Nat}{v:Value}{vs:List Value}{L:List (List Int)}(h:LnO w base v vs L)(hn:0<L.length):∃ b c,v = .slice (some ⟨b,0,none⟩) L.length c∧LnR w b 0 L.length c L:=by
 obtain⟨h1,h2⟩:=h.own
 rcases h2 with ⟨_,h0⟩ | ⟨g,cap,cur,rfl,hg,hh,hnc,hcm,hcs,hx⟩
 ·omega
 refine⟨g,cap,rfl,rfl,hnc,(by rcases Nat.lt_or_ge g w.heap.size with h | h;exact h;rw[Array.getElem?_eq_none h] at hh;cases hh),fun i hi=>?_⟩
 obtain⟨a,c,e,hr⟩:=zay (h.each i hi);refine⟨a,c,?_,hr⟩
 rw[World.ownsRow.cellAt (base:=base) (e:=109) (size:=1) (n:=L.length) (cap:=cap) (xs:=vs) ⟨h1,.inr ⟨g,cap,cur,rfl,hg,hh,hnc,hcm,hcs,hx⟩⟩ _ (by omega)]
 have hl:i<vs.length:=by rw[h.len];exact hi
 rw[←e];simp[List.getD,hl]
theorem own32:(21:TypeId)≠109:=by decide
theorem LnO.snoc{w1 w2:World}{base:Nat}{v v' u:Value}{vs:List Value}{L:List (List Int)}{ln:List Int}{o:Obj}
  (h:LnO w1 base v vs L) (hx:w1.ownsRow base 21 1 u ln.length (ln.map (Value.int .i32))) (hown:w2.ownsRow base 109 1 v' (L.length+1) (vs++[u])) (hg:(w1.alloc o).grownBy w2 v.ownBlock) :
  LnO w2 base v' (vs++[u]) (L++[ln]):=by
 refine⟨by simp[h.len],by rw[List.length_append];exact hown,fun i hi=>?_⟩
 rw[List.length_append] at hi;simp only[List.length_cons,List.length_nil] at hi
 by_cases e:i<L.length
 ·have h1:=kept2 own32 (h.each i e) h.own hg
  have e1:(vs++[u]).getD i (.slice none 0 0)=vs.getD i (.slice none 0 0):=by simp[List.getD,List.getElem?_append_left,show i<vs.length by rw[h.len];exact e]
  have e2:(L++[ln]).getD i []=L.getD i []:=by simp[List.getD,List.getElem?_append_left,e]
  rw[e1,e2];exact h1
 ·obtain rfl:i=L.length:=by omega
  have h1:=kept2 own32 hx h.own hg;have e1:(vs++[u]).getD L.length (.slice none 0 0)=u:=by rw[←h.len];simp[List.getD]
  have e2:(L++[ln]).getD L.length []=ln:=by simp[List.getD]
  rw[e1,e2];exact h1
theorem zbo(w1:World){ops:Array Oper}{rest:List Oper}{o:Oper}{a:Act}{Q:Exit→Act→World→Prop}(hgd:o.guard=none)(s x:Operand)
  (ho:o.op = .call { callee:=.builtin .append,args:=#[s,x],argTypes:=#[183,183] })
  (base:Nat) (v u:Value) (vs:List Value) (L:List (List Int)) (ln:List Int) (hs:a.eval s=v) (h:LnO w1 base v vs L) (hu:w1.ownsRow base 21 1 u ln.length (ln.map (Value.int .i32)))
  (hx:a.eval x = .slice (some ⟨w1.heap.size,0,none⟩) 1 1)
  (hb:L.length≤1099511627778) (hbase:base≤w1.heap.size)
  (hk:∀ v' vs' w',LnO w' base v' vs' (L++[ln])→Below base w1 w'→wpList prog ops Q rest (a.put o.dst v') w') :
  wpList prog ops Q (o::rest) a (w1.alloc (.cells #[u] 109)):=by
 obtain⟨i0,hi,hz0,hz1,hz2⟩:=info_parts infoSl;have hu1:u.oneCell'=true:=by obtain⟨a,c,rfl⟩:=lx.zaz hu;rfl
 refine wpList_append_own _ hgd s x 183 ho base 109 i0 (.slice none 0 0) 1 24 underlying183 hi hz0 hz1 hz2 rfl (by decide) _ _ _ hs (h.own.alloc _) ⟨w1.heap.size,0,none⟩ 1 1 [u] hx rfl (lx.cellv _ _ _) (lx.zaC _ hu1) (by unfold maxLen;omega) (by omega) (by simp;omega) ?_
 intro v' w' ho' hg _;exact hk v' _ w' (h.snoc hu ho' hg) (((Below.refl _ _).alloc hbase _).grown hg (by simp;omega) (fun q hq=>(h.own.lt q hq).1))
theorem zme(l:List Int)(k j:Nat):lx.cAt (l.drop k) j=lx.cAt l (k+j):=by
 unfold lx.cAt;rw[List.length_drop]
 by_cases h:k+j<l.length
 ·rw[if_pos (by omega),if_pos h]
  simp[List.getD]
 ·rw[if_neg (by omega),if_neg h]
theorem zhc(l:List Int)(k:Nat):esc4 (l.drop k)=decide (lx.cAt l k=92∧lx.cAt l (k+1)=34∧lx.cAt l (k+2)=34∧lx.cAt l (k+3)=34):=by
 rw[←ze6];unfold lx.eqB;simp only[zme,Nat.add_zero]
theorem zid(a:Option Addr)(n c:Nat)(l:List Int)(i:Nat)(w:World)(h:Row .i32 w a n c l)(hn:n≤1099511627778)(hi:i<n) :
  Calls prog 178 #[.slice a n c,.int .i64 (i:Int)] w fun e w'=>e = .returned (.bool (esc4 (l.drop i)))∧w'=w:=by
 have hT:=Hi (zhc l i);obtain⟨R,hR⟩:∃ R,R=esc4 (l.drop i):=⟨_,rfl⟩;rw[←hR] at hT ⊢;clear hR;have HL:=Hi h.len
 by_cases h2:i+3<n
 ·rcases h.at_ with h0 | ⟨b,off,rfl,hbw,hcell⟩
  ·omega
  rw[lx.zbk (show i<l.length by rw[h.len];omega),lx.zbk (show i+1<l.length by rw[h.len];omega),lx.zbk (show i+2<l.length by rw[h.len];omega),lx.zbk (show i+3<l.length by rw[h.len];omega)] at hT
  have c0:=hcell i (by omega)
  have c1:=hcell (i+1) (by omega)
  have c2:=hcell (i+2) (by omega)
  have c3:=hcell (i+3) (by omega)
  obtain⟨x0,hx0⟩:∃ x,x=l.getD i 0:=⟨_,rfl⟩;obtain⟨x1,hx1⟩:∃ x,x=l.getD (i+1) 0:=⟨_,rfl⟩;obtain⟨x2,hx2⟩:∃ x,x=l.getD (i+2) 0:=⟨_,rfl⟩;obtain⟨x3,hx3⟩:∃ x,x=l.getD (i+3) 0:=⟨_,rfl⟩;rw[←hx0] at c0 hT;rw[←hx1] at c1 hT;rw[←hx2] at c2 hT;rw[←hx3] at c3 hT;clear hx0 hx1 hx2 hx3 hcell h;have i2:(i:Int)+3<(n:Int):=by omega
  by_cases e0:x0=92
  ·subst e0
   by_cases e1:x1=34
   ·subst e1
    by_cases e2:x2=34
    ·subst e2
     by_cases e3:x3=34
     ·subst e3
      have hF:=Hi (show R=true from by rw[uh hT];rfl)
      clear hT
      go_enter func178,ntmps178
      go_wp2
      go_ret
      exact⟨by rw[uh hF];first | rfl | simp,rfl⟩
     ·have b3:(x3==34)=false:=by simpa using e3
      have hF:=Hi (show R=false from by rw[uh hT];exact decide_eq_false (fun e=>e3 e.2.2.2))
      clear hT e3
      go_enter func178,ntmps178
      go_wp2
      go_ret
      exact⟨by rw[uh hF];first | rfl | simp[b3],rfl⟩
    ·have b2:(x2==34)=false:=by simpa using e2
     have hF:=Hi (show R=false from by rw[uh hT];exact decide_eq_false (fun e=>e2 e.2.2.1))
     clear hT e2
     go_enter func178,ntmps178
     go_wp2
     go_ret
     exact⟨by rw[uh hF];first | rfl | simp,rfl⟩
   ·have b1:(x1==34)=false:=by simpa using e1
    have hF:=Hi (show R=false from by rw[uh hT];exact decide_eq_false (fun e=>e1 e.2.1))
    clear hT e1
    go_enter func178,ntmps178
    go_wp2
    go_ret
    exact⟨by rw[uh hF];first | rfl | simp,rfl⟩
  ·have b0:(x0==92)=false:=by simpa using e0
   have hF:=Hi (show R=false from by rw[uh hT];exact decide_eq_false (fun e=>e0 e.1))
   clear hT e0
   go_enter func178,ntmps178
   go_wp2
   go_ret
   exact⟨by rw[uh hF];first | rfl | simp,rfl⟩
 ·have i2:¬(i:Int)+3<(n:Int):=by omega
  have hF:=Hi (show R=false from by
   rw[uh hT];refine decide_eq_false (fun e=>?_)
   have:=lx.zaE e.2.2.2 (by decide)
   rw[uh HL] at this
   omega)
  clear hT
  go_enter func178,ntmps178
  go_wp2
  go_ret
  exact⟨by rw[uh hF];first | rfl | simp,rfl⟩
theorem zlT{c:Int}{r:List Int}(q:Nat)(last:Int)(h:lx.soB c=false):std (c::r) q last=false:=by
 rw[std,zio,h,Bool.false_and]
theorem zfn(a:Option Addr)(n c:Nat)(l:List Int)(w:World)(h:Row .i32 w a n c l)(hn:n≤1099511627776) :
  Calls prog 165 #[.slice a n c] w fun e w'=>e = .returned (.bool (std l 0 0))∧Below w.heap.size w w':=by
 have HL:=Hi h.len;obtain⟨R,hR⟩:∃ R,R=std l 0 0:=⟨_,rfl⟩;rw[←hR];have HR:=Hi hR.symm;clear hR
 go_enter func165,ntmps165
 go_wp2_with fail
 go_loopw [3,4,5] (fun qv lv iv wr=>∃ (k q:Nat) (y:Int),k≤n∧q≤2∧qv = .int .i64 (q:Nat)∧lv = .int .i32 y∧iv = .int .i64 k∧Hid (std (l.drop k) q y=R)∧wr=w) (fun _ _ i _=>n-(intOf i).toNat)
 case atStart=>exact⟨0,0,0,Nat.zero_le _,by omega,rfl,rfl,rfl,HR,rfl⟩
 case round =>
  obtain⟨k,q,y,hk,hq,rfl,rfl,rfl,hik,rfl⟩:=hrel
  by_cases hlt:k<n
  ·have HE:=Hi (zid a n c l k _ h (by omega) hlt)
   rcases h.at_ with h0 | ⟨b,off,rfl,hbw,hcell⟩
   ·omega
   have c0:=hcell k hlt;have Hd:=Hi (zct (l:=l) (k:=k) (by rw[uh HL];exact hlt))
   have ki:(k:Int)<(n:Int):=by omega
   have H4:=Hi (show esc4 (l.drop k)=true→k+4≤n from fun e=>by
    rw[zhc] at e;have:=lx.zaE (of_decide_eq_true e).2.2.2 (by decide)
    rw[uh HL] at this
    omega)
   obtain⟨x,hx⟩:∃ x,x=l.getD k 0:=⟨_,rfl⟩;rw[←hx] at c0 Hd;clear hx hcell;rw[uh Hd] at hik HE H4;have S:=Hi (fun W=>lx.zeb x W)
   cases hs:lx.soB x with
   | false =>
    have hF:=Hi (show false=R from by rw[←uh hik,zlT q y hs])
    rw[hs] at S;clear hs HE H4
    go_wp2_with fail
    refine (uh S _).mono ?_
    rintro e w2 ⟨rfl,rfl⟩
    go_wp2_with fail
    go_ret
    exact⟨by rw[←uh hF];rfl,Below.refl _ _⟩
   | true =>
    cases he:esc4 (x::l.drop (k+1)) with
    | true =>
     have h4:=uh H4 he;have hF:=Hi (show std (l.drop (k+4)) 0 0=R from by rw[←uh hik,zeg q y he,List.drop_drop])
     rw[hs] at S;rw[he] at HE;clear hs he H4 hik Hd
     go_wp2_with fail
     refine (uh S _).mono ?_
     rintro e w2 ⟨rfl,rfl⟩
     go_wp2_with fail
     refine (uh HE).mono ?_
     rintro e w2 ⟨rfl,rfl⟩
     go_wp2_with fail
     exact⟨⟨k+4,0,0,by omega,by omega,by go_num,rfl,by go_num,hF,(by trivial)⟩,by simp only[intOf];omega⟩
    | false =>
     by_cases h34:x=34
     ·subst h34
      by_cases hq2:q=2
      ·have hF:=Hi (show false=R from by rw[←uh hik,zbP,if_pos hq2])
       rw[hs] at S;rw[he] at HE;subst hq2;clear hs he H4 hik Hd
       go_wp2_with fail
       refine (uh S _).mono ?_
       rintro e w2 ⟨rfl,rfl⟩
       go_wp2_with fail
       refine (uh HE).mono ?_
       rintro e w2 ⟨rfl,rfl⟩
       go_wp2_with fail
       go_ret
       exact⟨by rw[←uh hF];rfl,Below.refl _ _⟩
      ·have hF:=Hi (show std (l.drop (k+1)) (q+1) 34=R from by rw[←uh hik,zbP,if_neg hq2])
       have q3:(((q:Int)+1)==3)=false:=by simp;omega
       rw[hs] at S;rw[he] at HE;clear hs he H4 hik Hd
       go_wp2_with fail
       refine (uh S _).mono ?_
       rintro e w2 ⟨rfl,rfl⟩
       go_wp2_with fail
       refine (uh HE).mono ?_
       rintro e w2 ⟨rfl,rfl⟩
       go_wp2_with fail
       exact⟨⟨k+1,q+1,34,by omega,by omega,by go_num,rfl,by go_num,hF,(by trivial)⟩,by simp only[intOf];omega⟩
     ·have b34:(x==34)=false:=by simpa using h34
      have hF:=Hi (show std (l.drop (k+1)) 0 x=R from by rw[←uh hik,zga q y he h34,zio,hs,Bool.true_and])
      rw[hs] at S;rw[he] at HE;clear hs he H4 hik Hd h34
      go_wp2_with fail
      refine (uh S _).mono ?_
      rintro e w2 ⟨rfl,rfl⟩
      go_wp2_with fail
      refine (uh HE).mono ?_
      rintro e w2 ⟨rfl,rfl⟩
      go_wp2_with fail
      exact⟨⟨k+1,0,x,by omega,by omega,by go_num,rfl,by go_num,hF,(by trivial)⟩,by simp only[intOf];omega⟩
  ·obtain rfl:k=n:=by omega
   have ki:¬(k:Int)<(k:Int):=by omega
   have hF:=Hi (show (!(y==34) && !(y==92))=R from by
    rw[←uh hik,show l.drop k=[] from List.drop_eq_nil_of_le (by rw[uh HL];omega),zfo])
   clear hik
   by_cases h34:y=34
   ·subst h34
    go_wp2_with fail
    go_ret
    exact⟨by rw[←uh hF];rfl,Below.refl _ _⟩
   ·have b34:(y != 34)=true:=by simpa using h34
    by_cases h92:y=92
    ·subst h92
     go_wp2_with fail
     go_ret
     exact⟨by rw[←uh hF];rfl,Below.refl _ _⟩
    ·have b92:(y != 92)=true:=by simpa using h92
     have hF2:=Hi (show true=R from by rw[←uh hF];simp[h34,h92])
     clear hF h34 h92
     go_wp2_with fail
     go_ret
     exact⟨by rw[←uh hF2];first | rfl | simp[b34,b92],Below.refl _ _⟩
theorem zgp(w:World)(t:TypeId):∀ j u,([.int .i32 34,.int .i32 34,.int .i32 34]:List Value)[j]? = some u→(w.alloc (.cells #[.int .i32 34,.int .i32 34,.int .i32 34] t)).cell? ((⟨w.heap.size,0,none⟩:Addr).add j)=some u:=by
 intro j u hj
 match j,hj with
 | 0,hj=>simp at hj;subst hj;simp[Addr.add]
 | 1,hj=>simp at hj;subst hj;simp[Addr.add]
 | 2,hj=>simp at hj;subst hj;simp[Addr.add]
 | (j+3),hj=>simp at hj
theorem zff:∀ (n:Nat) (l:List Int),l.length≤n→(opn l).length≤l.length
 | _,[],_=>by rw[zbw];exact lr _
 | 0,c::r,h=>by simp at h
 | n+1,c::r,h=>by
  have hr:r.length≤n:=by simp at h;omega
  cases he:esc4 (c::r) with
  | true =>
   obtain⟨x,hx⟩:=za8 he;rw[zb0 he]
   injection hx with h1 h2
   subst h1 h2;have:=zff n x (by simp at hr;omega)
   simp at this ⊢;omega
  | false =>
   rw[zdg he];have:=zff n r hr;simp;omega
theorem zhV(a:Option Addr)(n c:Nat)(l:List Int)(w:World)(h:Row .i32 w a n c l)(hn:n≤1099511627776) :
  Calls prog 167 #[.slice a n c] w fun e w'=>∃ v,e = .returned v∧w'.ownsRow w.heap.size 21 1 v (opn l).length ((opn l).map (Value.int .i32))∧Below w.heap.size w w':=by
 obtain⟨i0,hi,hz0,hz1,hz2⟩:=info_parts info32;have HL:=Hi h.len
 go_enter func167,ntmps167
 go_wp2_with fail
 go_loopw [3,4] (fun v i wr=>∃ (k:Nat) (X:List Int),k≤n∧i = .int .i64 k∧X.length≤k∧wr.ownsRow w.heap.size 21 1 v X.length (X.map (Value.int .i32))∧Hid (X++opn (l.drop k)=opn l)∧Below w.heap.size w wr) (fun _ i _=>n-(intOf i).toNat)
 case atStart=>exact⟨0,[],Nat.zero_le _,rfl,lr _,World.ownsRow_nil _ _ _ _,Hi (by simp),Below.refl _ _⟩
 case round =>
  obtain⟨k,X,hk,rfl,hXk,hown,hX,hbel⟩:=hrel;have hsz:=hbel.size
  by_cases hlt:k<n
  ·have HE:=Hi (zid a n c l k _ (h.below hbel) (by omega) hlt)
   rcases h.at_ with h0 | ⟨b,off,rfl,hbw,hcell⟩
   ·omega
   have c0:=(hbel.cell (p:=⟨b,off+k,none⟩) hbw).trans (hcell k hlt);have Hd:=Hi (zct (l:=l) (k:=k) (by rw[uh HL];exact hlt))
   have ki:(k:Int)<(n:Int):=by omega
   have H4:=Hi (show esc4 (l.drop k)=true→k+4≤n from fun e=>by
    rw[zhc] at e;have:=lx.zaE (of_decide_eq_true e).2.2.2 (by decide)
    rw[uh HL] at this
    omega)
   obtain⟨x,hx⟩:∃ x,x=l.getD k 0:=⟨_,rfl⟩;rw[←hx] at c0 Hd;clear hx hcell;rw[uh Hd] at HE H4 hX;obtain⟨aB,cB,rfl⟩:=lx.zaz hown
   cases he:esc4 (x::l.drop (k+1)) with
   | true =>
    have h4:=uh H4 he;have hF:=Hi (show (X++[34,34,34])++opn (l.drop (k+4))=opn l from by rw[←uh hX,zb0 he,List.drop_drop];simp)
    have hcel:=zgp wr 21;rw[he] at HE;clear he H4 hX Hd
    go_wp2_with fail
    refine (uh HE).mono ?_
    rintro e w2 ⟨rfl,rfl⟩
    go_wp2_with (at_builtin;refine wpList_append_own _ rfl _ _ 109 rfl w.heap.size 21 i0 (.int .i32 0) 1 4 underlying109 hi hz0 hz1 hz2 rfl (by decide) _ _ _ rfl (hown.alloc _) ⟨w2.heap.size,0,none⟩ 3 3 [.int .i32 34,.int .i32 34,.int .i32 34] rfl (by simp) hcel (by intro u hu;simp at hu;subst hu;rfl) (by unfold maxLen;omega) (by omega) (by simp;omega) ?_;intro v' w3 hown' hgrow _)
    refine⟨⟨k+4,X++[34,34,34],by omega,by go_num,by simp;omega,?_,hF,?_⟩,by simp only[intOf];omega⟩
    ·rw[List.length_append,List.map_append];exact hown'
    ·exact (hbel.alloc hsz _).grown hgrow (by simp;omega) (fun q hq=>(hown.lt q hq).1)
   | false =>
    have hF:=Hi (show (X++[x])++opn (l.drop (k+1))=opn l from by rw[←uh hX,zdg he];simp)
    rw[he] at HE;clear he H4 hX Hd
    go_wp2_with fail
    refine (uh HE).mono ?_
    rintro e w2 ⟨rfl,rfl⟩
    go_wp2_with (at_builtin;refine lx.zau _ rfl _ _ 109 rfl w.heap.size 21 i0 .i32 4 underlying109 hi hz0 hz1 hz2 _ _ _ rfl hown _ rfl (by unfold maxLen;omega) (by omega) (by omega) ?_;intro v' wC hown' hbC)
    refine⟨⟨k+1,X++[x],by omega,by go_num,by simp;omega,?_,hF,hbel.trans hbC⟩,by simp only[intOf];omega⟩
    rw[List.length_append,List.map_append];exact hown'
  ·obtain rfl:k=n:=by omega
   have ki:¬(k:Int)<(k:Int):=by omega
   have hF:=Hi (show X=opn l from by
    have e:=uh hX;rw[show l.drop k=[] from List.drop_eq_nil_of_le (by rw[uh HL];omega),zbw] at e
    simpa using e)
   obtain⟨aB,cB,rfl⟩:=lx.zaz hown;clear hX
   go_wp2_with fail
   go_ret
   refine⟨_,rfl,?_,hbel⟩
   rw[←uh hF];exact hown
theorem zgB(b off n c:Nat)(L:List (List Int))(w:World)(h:LnR w b off n c L)(hn:n≤1099511627778)(h0:0<n)(hm:∀ i,(L.getD i []).length≤1099511627776) :
  Calls prog 179 #[.slice (some ⟨b,off,none⟩) n c] w fun e w'=>e = .returned (.int .i64 (cmn L:Nat))∧w'=w:=by
 have HL:=Hi h.len;have HM:=Hi hm
 go_enter func179,ntmps179
 go_wp2_with fail
 go_loopw [3,4] (fun lv iv wr=>∃ k:Nat,k+1≤n∧iv = .int .i64 ((k+1:Nat):Int)∧lv = .int .i64 (lsI ((L.drop 1).take k))∧wr=w) (fun _ i _=>n-(intOf i).toNat)
 case atStart=>exact⟨0,by omega,by go_num,rfl,rfl⟩
 case round =>
  obtain⟨k,hk,rfl,rfl,rfl⟩:=hrel
  by_cases hlt:k+1<n
  ·obtain⟨ai,ci,h1,h2⟩:=h.at_ (k+1) hlt
   have hsn:=Hi (show lsI ((L.drop 1).take (k+1))=if (ind (L.getD (k+1) []):Int)<((L.getD (k+1) []).length:Int)∧(lsI ((L.drop 1).take k)<0∨(ind (L.getD (k+1) []):Int)<lsI ((L.drop 1).take k)) then (ind (L.getD (k+1) []):Int) else lsI ((L.drop 1).take k) from by
    have e:(L.drop 1).take (k+1)=(L.drop 1).take k++[L.getD (k+1) []]:=by
     rw[List.take_add_one];have hl:1+k<L.length:=by rw[uh HL];omega
     congr 1
     rw[List.getElem?_drop,List.getElem?_eq_getElem hl,List.getD,show k+1=1+k by omega,List.getElem?_eq_getElem hl]
     rfl
    rw[e,zfU])
   have hge:=zhC ((L.drop 1).take k);have hq0:=uh HM (k+1);have I:=Hi (fun W (hW:Row .i32 W ai (L.getD (k+1) []).length ci (L.getD (k+1) []))=>zdE ai _ ci (L.getD (k+1) []) W hW (by omega))
   have hil:=zdy (L.getD (k+1) []);obtain⟨x,hx⟩:∃ x,x=L.getD (k+1) []:=⟨_,rfl⟩;rw[←hx] at h1 h2 hsn I hq0 hil;obtain⟨m,hm⟩:∃ m,m=ind x:=⟨_,rfl⟩;rw[←hm] at hsn I hil;obtain⟨q,hq⟩:∃ q,q=x.length:=⟨_,rfl⟩;rw[←hq] at h1 hsn I hq0 hil;obtain⟨T,hT⟩:∃ T,T=lsI ((L.drop 1).take k):=⟨_,rfl⟩;rw[←hT] at hsn hge ⊢;have I2:=Hi (uh I wr (by rw[hq];exact h2))
   have ki:((k+1:Nat):Int)<(n:Int):=by omega
   obtain⟨K,hK⟩:∃ K,K=k+1:=⟨_,rfl⟩;have HK:=Hi hK;rw[←hK] at h1 hsn ki ⊢;clear hx hm hq hT h2 hK I
   by_cases c1:(m:Int)<(q:Int)
   ·by_cases c2:T<0
    ·have e:=Hi (show lsI ((L.drop 1).take K)=(m:Int) by rw[uh hsn,if_pos ⟨c1,.inl c2⟩])
     go_wp2_with fail
     refine (uh I2).mono ?_
     rintro e w1 ⟨rfl,rfl⟩
     go_wp2_with fail
     exact⟨⟨K,by have:=uh HK;omega,by go_num,by rw[uh e],(by trivial)⟩,by have:=uh HK;simp only[intOf];omega⟩
    ·by_cases c3:(m:Int)<T
     ·have e:=Hi (show lsI ((L.drop 1).take K)=(m:Int) by rw[uh hsn,if_pos ⟨c1,.inr c3⟩])
      go_wp2_with fail
      refine (uh I2).mono ?_
      rintro e w1 ⟨rfl,rfl⟩
      go_wp2_with fail
      exact⟨⟨K,by have:=uh HK;omega,by go_num,by rw[uh e],(by trivial)⟩,by have:=uh HK;simp only[intOf];omega⟩
     ·have e:=Hi (show lsI ((L.drop 1).take K)=T by rw[uh hsn,if_neg (by omega)])
      go_wp2_with fail
      refine (uh I2).mono ?_
      rintro e w1 ⟨rfl,rfl⟩
      go_wp2_with fail
      exact⟨⟨K,by have:=uh HK;omega,by go_num,by rw[uh e],(by trivial)⟩,by have:=uh HK;simp only[intOf];omega⟩
   ·have e:=Hi (show lsI ((L.drop 1).take K)=T by rw[uh hsn,if_neg (by omega)])
    go_wp2_with fail
    refine (uh I2).mono ?_
    rintro e w1 ⟨rfl,rfl⟩
    go_wp2_with fail
    exact⟨⟨K,by have:=uh HK;omega,by go_num,by rw[uh e],(by trivial)⟩,by have:=uh HK;simp only[intOf];omega⟩
  ·have e:(L.drop 1).take k=L.drop 1:=List.take_of_length_le (by rw[List.length_drop,uh HL];omega)
   rw[e];clear e;have hcm:=Hi (show cmn L=(max (lsI (L.drop 1)) 0).toNat from (zmn L).symm)
   obtain⟨T,hT⟩:∃ T,T=lsI (L.drop 1):=⟨_,rfl⟩;rw[←hT] at hcm ⊢;have ki:¬((k+1:Nat):Int)<(n:Int):=by omega
   obtain⟨K,hK⟩:∃ K,K=k+1:=⟨_,rfl⟩;rw[←hK] at ki ⊢;clear hT hK
   by_cases c0:T<0
   ·have e2:=Hi (show cmn L=0 by rw[uh hcm];omega)
    go_wp2_with fail
    go_ret
    rw[uh e2];exact⟨rfl,rfl⟩
   ·have e2:=Hi (show ((cmn L:Nat):Int)=T by rw[uh hcm];omega)
    go_wp2_with fail
    go_ret
    rw[uh e2];exact⟨rfl,rfl⟩
end sv
end Go.Proofs.YtepmbmbnlmbhhaaGreat
