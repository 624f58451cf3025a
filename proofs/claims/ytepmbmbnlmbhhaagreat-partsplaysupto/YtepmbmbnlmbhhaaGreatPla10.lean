import Derived.Test.YtepmbmbnlmbhhaaGreatPla9
import Derived.Deep.RegionWith
set_option linter.unusedVariables false
set_option linter.unusedSimpArgs false
set_option maxHeartbeats 16000000
set_option maxRecDepth 8000
open Go.Proofs.Tryz
namespace Go.Proofs.YtepmbmbnlmbhhaaGreat
open Go.ChangeShapes Go.WideShapes Go.ChangeAt Go.RowKit
namespace lx
open ints (Hi uh hexV)
open mem
theorem zm0(a:Option Addr)(n c:Nat)(cl:Bool)(l:List Int)(p:Nat)(w:World)(h:Row .i32 w a n c l)(hn:n≤1099511627776)(hp:p<n)(hs:∀ x∈l,scP x) :
  Calls prog 118 #[src a n c cl,.int .i64 (p:Int)] w fun e w'=>e = .returned (.tuple #[.int .i64 (qtd l p).1,.int .i64 ((qtd l p).2.1:Int),.string (qtd l p).2.2])∧Below w.heap.size w w':=by
 have hl:=Hi h.len;have hle:=h.le
 obtain⟨b,off,rfl⟩:∃ b off,a=some ⟨b,off,none⟩:=by
  rcases h.at_ with h1 | ⟨b,off,e,_⟩
  ·omega
  ·exact⟨b,off,e⟩
 have HS:=Hi hs;clear hs;obtain⟨R,hR⟩:∃ R,R=endQ l (n+2) (p+1):=⟨_,rfl⟩;have HQ:=Hi (show qtd l p=qtdR l p R from by unfold qtd;rw[uh hl,hR])
 have HR:=Hi hR.symm;clear hR;unfold src;have hsb:=Hi (Sb.new w (some ⟨b,off,none⟩) n c cl)
 go_enter func118,ntmps118
 go_wp2_with fail
 obtain⟨w1,hw1⟩:∃ w1,w1=w.alloc (.cells #[.slice (some ⟨b,off,none⟩) n c,.bool cl] 113):=⟨_,rfl⟩;rw[←hw1] at hsb ⊢;clear hw1
 go_loopg [8] (n+1) (fun g vi wr=>∃ k fu:Nat,p+1≤k∧k≤n∧n+1≤g+k∧n+1≤fu+k∧vi = .int .i64 k∧Hid (endQ l fu k=R)∧Sb w wr (some ⟨b,off,none⟩) n c cl)
 case atStart=>exact⟨p+1,n+2,by omega,by omega,by omega,by omega,by go_num,HR,uh hsb⟩
 case round =>
  obtain⟨k,fu,hpk,hk,hg,hf,rfl,hik,hs⟩:=hrel;obtain⟨f2,rfl⟩:∃ f2,fu=f2+1:=⟨fu-1,by omega⟩
  have hik':=Hi (show (if cAt l k=34 then some k
   else if cAt l k=92 then (if cAt l (k+1)=10∨cAt l (k+1)=13∨soB (cAt l (k+1))=false then none else endQ l f2 (k+2))
   else if cAt l k=10∨cAt l k=13∨soB (cAt l k)=false then none else endQ l f2 (k+1))=R from uh hik)
  clear hik;have d0:=hs.c0;have d1:=hs.c1
  go_wp2_with fail
  refine (zcn _ n c cl l k wr (h.below hs.bel) (by omega)).mono ?_
  rintro e w2 ⟨rfl,b2⟩;have hs2:=hs.below b2;obtain⟨x,hx⟩:∃ x,x=cAt l k:=⟨_,rfl⟩;rw[←hx] at hik' ⊢;have Hx:=Hi hx.symm;clear hx hs d0 d1;have d0:=hs2.c0;have d1:=hs2.c1
  by_cases h34:x=34
  ·have hRk:=Hi (show R=some k from by rw[←uh hik',if_pos h34])
   have hkn:k<n:=by rw[←uh hl];exact zeo l k (by rw[uh Hx,h34])
   have kc:(k:Int)≤(c:Int):=by omega
   have pc:¬c=p+1:=by omega
   have HU:=Hi (zh8 _ _ _ _ w2 ((zb3 h (p+1) k hpk (by omega)).below hs2.bel) (by omega) (fun x hx=>uh HS x (List.mem_of_mem_drop (List.mem_of_mem_take hx))))
   have HB:=Hi (fun W=>za3 p W)
   subst h34;clear hik' Hx
   go_wp2_with fail
   refine (uh HU).mono ?_
   rintro e w3 ⟨rfl,b3⟩
   cases hq:quo (insZ l (p+1) k) with
   | none =>
    have HF:=Hi (show qtd l p=(1,p,⟨#[]⟩) from by rw[uh HQ,uh hRk];unfold qtdR;simp only[hq])
    rw[show quoS (insZ l (p+1) k)=⟨#[]⟩ from by unfold quoS;rw[hq],show quoE (insZ l (p+1) k)=60 from by unfold quoE;rw[hq]]
    clear hq
    go_wp2_with fail
    refine (uh HB _).mono ?_
    rintro e w4 ⟨rfl,rfl⟩
    go_wp2_with fail
    go_ret3
    exact⟨by rw[uh HF];rfl,hs2.bel.trans (b3.mono hs2.bel.size)⟩
   | some r =>
    have HF:=Hi (show qtd l p=(6,k+1,encS r) from by rw[uh HQ,uh hRk];unfold qtdR;simp only[hq])
    rw[show quoS (insZ l (p+1) k)=encS r from by unfold quoS;rw[hq],show quoE (insZ l (p+1) k)=0 from by unfold quoE;rw[hq]]
    clear hq
    go_wp2_with fail
    go_ret3
    exact⟨by rw[uh HF];rfl,hs2.bel.trans (b3.mono hs2.bel.size)⟩
  ·have e34:(x != 34)=true:=by simpa using h34
   go_wp2_with fail
   refine (zcn _ n c cl l k w2 (h.below hs2.bel) (by omega)).mono ?_
   rintro e w3 ⟨rfl,b3⟩;rw[uh Hx];have hs3:=hs2.below b3;clear d0 d1;have d0:=hs3.c0;have d1:=hs3.c1
   by_cases h92:x=92
   ·subst h92
    have hik1:=Hi (show (if cAt l (k+1)=10∨cAt l (k+1)=13∨soB (cAt l (k+1))=false then none else endQ l f2 (k+2))=R from by
     have e:=uh hik';rw[if_neg (show ¬(92:Int)=34 by decide),if_pos rfl] at e
     exact e)
    clear hik' Hx h34 e34;obtain⟨x,hx⟩:∃ x,x=cAt l (k+1):=⟨_,rfl⟩;have hik2:=Hi (show (if x=10∨x=13∨soB x=false then none else endQ l f2 (k+2))=R from by rw[hx];exact uh hik1)
    have Hx:=Hi hx.symm;clear hx hik1
    go_wp2_with fail
    rw[show ((k:Int)+1)=((k+1:Nat):Int) by omega]
    refine (zcn _ n c cl l (k+1) w3 (h.below hs3.bel) (by omega)).mono ?_
    rintro e w4 ⟨rfl,b4⟩;rw[uh Hx];have hs4:=hs3.below b4;clear d0 d1;have d0:=hs4.c0;have d1:=hs4.c1
    by_cases hc:x=10∨x=13
    ·have HF:=Hi (show qtd l p=(1,p,⟨#[]⟩) from by rw[uh HQ,←uh hik2,if_pos (by rcases hc with e | e;exact .inl e;exact .inr (.inl e))];rfl)
     have HB:=Hi (fun W=>za3 p W)
     clear hik2 Hx
     rcases hc with rfl | rfl
     ·go_wp2_with fail
      refine (uh HB _).mono ?_
      rintro e w5 ⟨rfl,rfl⟩
      go_wp2_with fail
      go_ret3
      exact⟨by rw[uh HF];rfl,hs4.bel⟩
     ·go_wp2_with fail
      refine (uh HB _).mono ?_
      rintro e w5 ⟨rfl,rfl⟩
      go_wp2_with fail
      go_ret3
      exact⟨by rw[uh HF];rfl,hs4.bel⟩
    have g1:(x==10)=false:=by simp;exact fun e=>hc (.inl e)
    have g2:(x==13)=false:=by simp;exact fun e=>hc (.inr e)
    have n1:¬x=10:=fun e=>hc (.inl e)
    have n2:¬x=13:=fun e=>hc (.inr e)
    clear hc
    go_wp2_with fail
    refine (za0 x _).mono ?_
    rintro e w5 ⟨rfl,rfl⟩
    cases hsx:soB x with
    | false =>
     have HF:=Hi (show qtd l p=(1,p,⟨#[]⟩) from by rw[uh HQ,←uh hik2,if_pos (.inr (.inr hsx))];rfl)
     have HB:=Hi (fun W=>za3 p W)
     clear hik2 Hx hsx
     go_wp2_with fail
     refine (uh HB _).mono ?_
     rintro e w6 ⟨rfl,rfl⟩
     go_wp2_with fail
     go_ret3
     exact⟨by rw[uh HF];rfl,hs4.bel⟩
    | true =>
     have hkn:k+1<n:=by rw[←uh hl];exact zfz l (k+1) (by rw[uh Hx,hsx])
     have hik3:=Hi (show endQ l f2 (k+2)=R from by rw[←uh hik2,if_neg (fun e=>by rcases e with e | e | e;exact n1 e;exact n2 e;rw[hsx] at e;cases e)])
     clear hik2 Hx hsx
     go_wp2_with fail
     go_roundg (gk-1)
     case rel=>exact⟨k+2,f2,by omega,by omega,by omega,by omega,by go_num,hik3,hs4⟩
     case measure=>omega
   ·have e92:(x==92)=false:=by simpa using h92
    have hik2:=Hi (show (if x=10∨x=13∨soB x=false then none else endQ l f2 (k+1))=R from by rw[←uh hik',if_neg h34,if_neg h92])
    clear hik'
    go_wp2_with fail
    refine (zcn _ n c cl l k w3 (h.below hs3.bel) (by omega)).mono ?_
    rintro e w4 ⟨rfl,b4⟩;rw[uh Hx];have hs4:=hs3.below b4;clear d0 d1;have d0:=hs4.c0;have d1:=hs4.c1
    by_cases hc:x=10∨x=13
    ·have HF:=Hi (show qtd l p=(1,p,⟨#[]⟩) from by rw[uh HQ,←uh hik2,if_pos (by rcases hc with e | e;exact .inl e;exact .inr (.inl e))];rfl)
     have HB:=Hi (fun W=>za3 p W)
     clear hik2 Hx
     rcases hc with rfl | rfl
     ·go_wp2_with fail
      refine (uh HB _).mono ?_
      rintro e w5 ⟨rfl,rfl⟩
      go_wp2_with fail
      go_ret3
      exact⟨by rw[uh HF];rfl,hs4.bel⟩
     ·go_wp2_with fail
      refine (uh HB _).mono ?_
      rintro e w5 ⟨rfl,rfl⟩
      go_wp2_with fail
      go_ret3
      exact⟨by rw[uh HF];rfl,hs4.bel⟩
    have g1:(x==10)=false:=by simp;exact fun e=>hc (.inl e)
    have g2:(x==13)=false:=by simp;exact fun e=>hc (.inr e)
    have n1:¬x=10:=fun e=>hc (.inl e)
    have n2:¬x=13:=fun e=>hc (.inr e)
    clear hc
    go_wp2_with fail
    refine (za0 x _).mono ?_
    rintro e w5 ⟨rfl,rfl⟩
    cases hsx:soB x with
    | false =>
     have HF:=Hi (show qtd l p=(1,p,⟨#[]⟩) from by rw[uh HQ,←uh hik2,if_pos (.inr (.inr hsx))];rfl)
     have HB:=Hi (fun W=>za3 p W)
     clear hik2 Hx hsx
     go_wp2_with fail
     refine (uh HB _).mono ?_
     rintro e w6 ⟨rfl,rfl⟩
     go_wp2_with fail
     go_ret3
     exact⟨by rw[uh HF];rfl,hs4.bel⟩
    | true =>
     have hkn:k<n:=by rw[←uh hl];exact zfz l k (by rw[uh Hx,hsx])
     have hik3:=Hi (show endQ l f2 (k+1)=R from by rw[←uh hik2,if_neg (fun e=>by rcases e with e | e | e;exact n1 e;exact n2 e;rw[hsx] at e;cases e)])
     clear hik2 Hx hsx
     go_wp2_with fail
     go_roundg (gk-1)
     case rel=>exact⟨k+1,f2,by omega,by omega,by omega,by omega,by go_num,hik3,hs4⟩
     case measure=>omega
open ints (Hi uh)
open mem (Row)
def E0:ByteArray:=⟨#[]⟩
def rdG(l:List Int)(cl:Bool)(i:Nat):Int × Nat × ByteArray:=
 if i=l.length∧cl=true then (0,i,E0)
 else if cAt l i=46 then (if cAt l (i+1)=46∧cAt l (i+2)=46 then (2,i+3,E0) else (1,i,E0))
 else if puB (cAt l i) then (2,i+1,E0)
 else if nsB (cAt l i) then (3,nam l (i+1),E0)
 else if cAt l i=45∨mem.digB (cAt l i) then ((num l i).1,(num l i).2,E0)
 else if tq l i=true then blc sv.bS l i
 else if cAt l i=34 then qtd l i
 else (1,i,E0)
theorem zm2(a:Option Addr)(n c:Nat)(cl:Bool)(l:List Int)(i:Nat)(w:World)(h:Row .i32 w a n c l)(hn:n≤1099511627776)(hi:i≤n)(hs:∀ x∈l,mem.scP x) :
  Calls prog 97 #[src a n c cl,.int .i64 (i:Int)] w fun e w'=>e = .returned (.tuple #[.int .i64 (rdG l cl i).1,.int .i64 ((rdG l cl i).2.1:Nat),.string (rdG l cl i).2.2])∧Below w.heap.size w w':=by
 have hl:=Hi h.len;have hsb:=Hi (Sb.new w a n c cl)
 have hN:=Hi (show rdG l cl i=(if i=l.length∧cl=true then (0,i,E0)
  else if cAt l i=46 then (if cAt l (i+1)=46∧cAt l (i+2)=46 then (2,i+3,E0) else (1,i,E0))
  else if puB (cAt l i) then (2,i+1,E0)
  else if nsB (cAt l i) then (3,nam l (i+1),E0)
  else if cAt l i=45∨mem.digB (cAt l i) then ((num l i).1,(num l i).2,E0)
  else if tq l i=true then blc sv.bS l i
  else if cAt l i=34 then qtd l i
  else (1,i,E0)) from rfl)
 obtain⟨N,hNe⟩:∃ N,N=rdG l cl i:=⟨_,rfl⟩;rw[←hNe] at hN ⊢;clear hNe;have hA:=Hi (fun W (hb:Below w.heap.size w W) (k:Nat)=>zcn a n c cl l k W (h.below hb) (by omega))
 have hxs:mem.scP (cAt l i)∨cAt l i = -1:=by
  rcases Nat.lt_or_ge i l.length with h1 | h1
  ·left
   rw[zbk h1];exact hs _ (by rw[List.getD_eq_getElem?_getD,List.getElem?_eq_getElem h1];exact List.getElem_mem h1)
  ·exact .inr (zaI h1)
 have hend:i=n→cAt l i = -1∧tq l i=false:=fun e=>by
  have h1:cAt l i = -1:=zaI (by rw[h.len];omega)
  refine⟨h1,?_⟩
  unfold tq;rw[h1];simp
 have htq:=Hi (fun W (hb:Below w.heap.size w W)=>zns a n c cl l i W (h.below hb) hn (by omega))
 have hbc:=Hi (fun W (hb:Below w.heap.size w W) (ht:tq l i=true)=>zmd sv.bS sv.bE (fun a n c l w h hn _=>sv.ziG a n c l w h hn) a n c cl l i W (h.below hb) hn (by have:=zci l i ht;rw[h.len] at this;omega) hs)
 have hqt:=Hi (fun W (hb:Below w.heap.size w W) (hlt:i<n)=>zm0 a n c cl l i W (h.below hb) hn hlt hs)
 have hct:=Hi (fun W=>zep (cAt l i) W hxs)
 obtain⟨x,hx⟩:∃ x,x=cAt l i:=⟨_,rfl⟩;have hX:=Hi hx;rw[←hx] at hN hend hct;clear hx hxs hs;unfold src
 go_enter func97,ntmps97
 go_wp2_with fail
 obtain⟨w1,hw1⟩:∃ w1,w1=w.alloc (.cells #[.slice a n c,.bool cl] 113):=⟨_,rfl⟩;rw[←hw1] at hsb ⊢;clear hw1;refine ((uh hA) w1 (uh hsb).bel i).mono ?_
 rintro e w2 ⟨rfl,b2⟩;have hs2:=(uh hsb).below b2;rw[←uh hX];have d0:=hs2.c0;have d1:=hs2.c1;have F:∀ (T:Nat) (V:ByteArray) (K:Int),N=(K,T,V)→Ending.returned (.tuple #[.int .i64 K,.int .i64 (T:Int),.string V]) = .returned (.tuple #[.int .i64 N.1,.int .i64 (N.2.1:Nat),.string N.2.2]):=fun T V K e=>by rw[e]
 have HF:=Hi F;clear F
 by_cases hin:i=n
 ·obtain⟨hx1,htf⟩:=hend hin
  cases cl with
  | true =>
   have hN2:=Hi (show N=(0,i,E0) from by rw[uh hN,if_pos ⟨by rw[uh hl];exact hin,rfl⟩])
   subst hin;clear hx1 htf hend
   go_wp2_with fail
   go_ret3
   exact⟨(uh HF) _ _ _ (uh hN2),hs2.bel⟩
  | false =>
   have hN2:=Hi (show N=(1,i,E0) from by
    rw[uh hN,if_neg (fun e=>by cases e.2),hx1,htf]
    rfl)
   rw[htf] at htq;rw[hx1] at hct;subst hin;subst hx1;clear htf hend hN
   go_wp2_with fail
   refine ((uh hct) _).mono ?_
   rintro e w3 ⟨rfl,b3⟩;have hs3:=hs2.below b3;clear d0 d1;have d0:=hs3.c0;have d1:=hs3.c1;have e1:puB (-1)=false:=by decide
   have e2:nsB (-1)=false:=by decide
   have e3:mem.digB (-1)=false:=by decide
   rw[e1]
   go_wp2_with fail
   refine (zlp (-1) _).mono ?_
   rintro e w4 ⟨rfl,rfl⟩;rw[e2]
   go_wp2_with fail
   refine (zdU (-1) _).mono ?_
   rintro e w4 ⟨rfl,rfl⟩;rw[e3]
   go_wp2_with fail
   refine ((uh htq) _ hs3.bel).mono ?_
   rintro e w4 ⟨rfl,b4⟩;have hs4:=hs3.below b4
   go_wp2_with fail
   refine (za3 _ _).mono ?_
   rintro e w5 ⟨rfl,rfl⟩
   go_wp2_with fail
   go_ret3
   exact⟨(uh HF) _ _ _ (uh hN2),hs4.bel⟩
 ·have hlt:i<n:=by omega
  have ene:((i:Int)==(n:Int))=false:=by simp;omega
  have hN1:=Hi (show N=(if x=46 then (if cAt l (i+1)=46∧cAt l (i+2)=46 then (2,i+3,E0) else (1,i,E0))
   else if puB x then (2,i+1,E0)
   else if nsB x then (3,nam l (i+1),E0)
   else if x=45∨mem.digB x then ((num l i).1,(num l i).2,E0)
   else if tq l i=true then blc sv.bS l i
   else if x=34 then qtd l i
   else (1,i,E0)) from by rw[uh hN,if_neg (fun e=>hin (by rw[e.1,uh hl]))])
  have hnm:=Hi (fun W (hb:Below w.heap.size w W)=>zkq a n c cl l (i+1) W (h.below hb) hn (by omega))
  have hnu:=Hi (fun W (hb:Below w.heap.size w W)=>zkw a n c cl l i W (h.below hb) hn hi)
  clear hN hend hin
  by_cases h46:x=46
  ·subst h46
   have hN2:=Hi (show N=(if cAt l (i+1)=46∧cAt l (i+2)=46 then (2,i+3,E0) else (1,i,E0)) from uh hN1)
   clear hN1
   go_wp2_with fail
   rw[show ((i:Int)+1)=((i+1:Nat):Int) by omega]
   refine ((uh hA) _ hs2.bel (i+1)).mono ?_
   rintro e w3 ⟨rfl,b3⟩;have hs3:=hs2.below b3;clear d0 d1;have d0:=hs3.c0;have d1:=hs3.c1;obtain⟨y,hy⟩:∃ y,y=cAt l (i+1):=⟨_,rfl⟩;rw[←hy] at hN2 ⊢;clear hy
   by_cases hy46:y=46
   ·subst hy46
    go_wp2_with fail
    rw[show ((i:Int)+2)=((i+2:Nat):Int) by omega]
    refine ((uh hA) _ hs3.bel (i+2)).mono ?_
    rintro e w4 ⟨rfl,b4⟩;have hs4:=hs3.below b4;obtain⟨z,hz⟩:∃ z,z=cAt l (i+2):=⟨_,rfl⟩;rw[←hz] at hN2 ⊢;clear hz
    by_cases hz46:z=46
    ·subst hz46
     have hN3:=Hi (show N=(2,i+3,E0) from by rw[uh hN2];simp)
     go_wp2_with fail
     go_ret3
     exact⟨(by have:=(uh HF) _ _ _ (uh hN3);rw[←this];go_num),hs4.bel⟩
    ·have e46:(z != 46)=true:=by simpa using hz46
     have hN3:=Hi (show N=(1,i,E0) from by rw[uh hN2,if_neg (fun e=>hz46 e.2)])
     clear hz46
     go_wp2_with fail
     refine (za3 i _).mono ?_
     rintro e w5 ⟨rfl,rfl⟩
     go_wp2_with fail
     go_ret3
     exact⟨(uh HF) _ _ _ (uh hN3),hs4.bel⟩
   ·have e46:(y != 46)=true:=by simpa using hy46
    have hN3:=Hi (show N=(1,i,E0) from by rw[uh hN2,if_neg (fun e=>hy46 e.1)])
    clear hy46
    go_wp2_with fail
    refine (za3 i _).mono ?_
    rintro e w5 ⟨rfl,rfl⟩
    go_wp2_with fail
    go_ret3
    exact⟨(uh HF) _ _ _ (uh hN3),hs3.bel⟩
  ·have e46:(x==46)=false:=by simpa using h46
   have hN2:=Hi (show N=(if puB x then (2,i+1,E0)
    else if nsB x then (3,nam l (i+1),E0)
    else if x=45∨mem.digB x then ((num l i).1,(num l i).2,E0)
    else if tq l i=true then blc sv.bS l i
    else if x=34 then qtd l i
    else (1,i,E0)) from by rw[uh hN1,if_neg h46])
   clear hN1 h46
   go_wp2_with fail
   refine ((uh hct) _).mono ?_
   rintro e w3 ⟨rfl,b3⟩;have hs3:=hs2.below b3;clear d0 d1;have d0:=hs3.c0;have d1:=hs3.c1
   cases hpu:puB x
   ·go_wp2_with fail
    refine (zlp x _).mono ?_
    rintro e w4 ⟨rfl,rfl⟩
    cases hns:nsB x
    ·by_cases h45:x=45
     ·subst h45
      have hN3:=Hi (show N=((num l i).1,(num l i).2,E0) from by rw[uh hN2];simp[hpu,hns])
      clear hN2
      go_wp2_with fail
      refine ((uh hnu) _ hs3.bel).mono ?_
      rintro e w4 ⟨rfl,b4⟩;have hs4:=hs3.below b4
      go_wp2_with fail
      go_ret3
      exact⟨(uh HF) _ _ _ (uh hN3),hs4.bel⟩
     ·have e45:(x==45)=false:=by simpa using h45
      have H45:=Hi h45;clear h45
      go_wp2_with fail
      refine (zdU x _).mono ?_
      rintro e w4 ⟨rfl,rfl⟩
      cases hdg:mem.digB x
      ·have hN3:=Hi (show N=(if tq l i=true then blc sv.bS l i else if x=34 then qtd l i else (1,i,E0)) from by rw[uh hN2];simp[hpu,hns,hdg,uh H45])
       clear hN2
       cases htv:tq l i with
       | true =>
        have hN4:=Hi (show N=blc sv.bS l i from by rw[uh hN3,if_pos htv])
        have hbc2:=Hi (fun W hb=>(uh hbc) W hb htv)
        rw[htv] at htq;clear hN3 htv hbc
        go_wp2_with fail
        refine ((uh htq) _ hs3.bel).mono ?_
        rintro e w4 ⟨rfl,b4⟩;have hs4:=hs3.below b4;clear d0 d1;have d0:=hs4.c0;have d1:=hs4.c1
        go_wp2_with fail
        refine ((uh hbc2) _ hs4.bel).mono ?_
        rintro e w5 ⟨rfl,b5⟩;have hs5:=hs4.below b5
        go_wp2_with fail
        go_ret3
        exact⟨(uh HF) _ _ _ (uh hN4),hs5.bel⟩
       | false =>
        rw[htv] at htq
        by_cases h34:x=34
        ·have hN4:=Hi (show N=qtd l i from by rw[uh hN3,htv,if_neg (by decide),if_pos h34])
         have hqt2:=Hi (fun W hb=>(uh hqt) W hb hlt)
         subst h34;clear hN3 htv hbc hqt
         go_wp2_with fail
         refine ((uh htq) _ hs3.bel).mono ?_
         rintro e w4 ⟨rfl,b4⟩;have hs4:=hs3.below b4;clear d0 d1;have d0:=hs4.c0;have d1:=hs4.c1
         go_wp2_with fail
         refine ((uh hqt2) _ hs4.bel).mono ?_
         rintro e w5 ⟨rfl,b5⟩;have hs5:=hs4.below b5
         go_wp2_with fail
         go_ret3
         exact⟨(uh HF) _ _ _ (uh hN4),hs5.bel⟩
        ·have e34:(x==34)=false:=by simpa using h34
         have hN4:=Hi (show N=(1,i,E0) from by rw[uh hN3,htv,if_neg (by decide),if_neg h34])
         clear hN3 htv hbc hqt h34
         go_wp2_with fail
         refine ((uh htq) _ hs3.bel).mono ?_
         rintro e w4 ⟨rfl,b4⟩;have hs4:=hs3.below b4
         go_wp2_with fail
         refine (za3 i _).mono ?_
         rintro e w5 ⟨rfl,rfl⟩
         go_wp2_with fail
         go_ret3
         exact⟨(uh HF) _ _ _ (uh hN4),hs4.bel⟩
      ·have hN3:=Hi (show N=((num l i).1,(num l i).2,E0) from by rw[uh hN2];simp[hpu,hns,hdg])
       clear hN2
       go_wp2_with fail
       refine ((uh hnu) _ hs3.bel).mono ?_
       rintro e w4 ⟨rfl,b4⟩;have hs4:=hs3.below b4
       go_wp2_with fail
       go_ret3
       exact⟨(uh HF) _ _ _ (uh hN3),hs4.bel⟩
    ·have hN3:=Hi (show N=(3,nam l (i+1),E0) from by rw[uh hN2];simp[hpu,hns])
     clear hN2
     go_wp2_with fail
     refine ((uh hnm) _ hs3.bel).mono ?_
     rintro e w4 ⟨rfl,b4⟩;have hs4:=hs3.below b4
     go_wp2_with fail
     go_ret3
     exact⟨(uh HF) _ _ _ (uh hN3),hs4.bel⟩
   ·have hN3:=Hi (show N=(2,i+1,E0) from by rw[uh hN2];simp[hpu])
    clear hN2
    go_wp2_with fail
    go_ret3
    exact⟨(by have:=(uh HF) _ _ _ (uh hN3);rw[←this];go_num),hs3.bel⟩
open cu (Tk)
open dt (zac zab zad)
theorem zbX(l:List Int):∀ (k j i:Nat),endB l k j=some i→j≤i∧tq l i=true
 | 0,j,i,h=>by cases h
 | k+1,j,i,h=>by
  unfold endB at h
  split at h
  ·rename_i ht
   simp at h;subst h;exact⟨lr _,ht⟩
  ·split at h
   ·have:=zbX l k _ _ h
    exact⟨by omega,this.2⟩
   ·split at h
    ·cases h
    ·have:=zbX l k _ _ h
     exact⟨by omega,this.2⟩
theorem zc6(l:List Int):∀ (k j i:Nat),endQ l k j=some i→j≤i∧cAt l i=34
 | 0,j,i,h=>by cases h
 | k+1,j,i,h=>by
  unfold endQ at h
  split at h
  ·rename_i ht
   simp at h;subst h;exact⟨lr _,ht⟩
  ·split at h
   ·split at h
    ·cases h
    ·have:=zc6 l k _ _ h
     exact⟨by omega,this.2⟩
   ·split at h
    ·cases h
    ·have:=zc6 l k _ _ h
     exact⟨by omega,this.2⟩
theorem zmc(bS:List Int→ByteArray)(l:List Int)(i:Nat)(hi:i≤l.length):i≤(blc bS l i).2.1∧(blc bS l i).2.1≤l.length∧((blc bS l i).1=1∨i<(blc bS l i).2.1)∧(blc bS l i).1≠0:=by
 unfold blc
 cases e:endB l (l.length+2) (i+3) with
 | none=>exact⟨lr _,hi,.inl rfl,by simp[blcR]⟩
 | some j =>
  have h1:=zbX l _ _ _ e;have h2:=zci l j h1.2;simp only[blcR];exact⟨by omega,by omega,.inr (by omega),by decide⟩
theorem zmZ(l:List Int)(i:Nat)(hi:i≤l.length):i≤(qtd l i).2.1∧(qtd l i).2.1≤l.length∧((qtd l i).1=1∨i<(qtd l i).2.1)∧(qtd l i).1≠0:=by
 unfold qtd
 cases e:endQ l (l.length+2) (i+1) with
 | none=>exact⟨lr _,hi,.inl rfl,by simp[qtdR]⟩
 | some j =>
  have h1:=zc6 l _ _ _ e;have h2:=zeo l j h1.2;simp only[qtdR]
  cases quo (insZ l (i+1) j) with
  | none=>exact⟨lr _,hi,.inl rfl,by simp⟩
  | some r=>exact⟨by simp only;omega,by simp only;omega,.inr (by simp only;omega),by simp⟩
theorem zf3(l:List Int)(cl:Bool)(i:Nat)(hi:i≤l.length):i≤(rdG l cl i).2.1∧(rdG l cl i).2.1≤l.length∧((rdG l cl i).1=0∨(rdG l cl i).1=1∨i<(rdG l cl i).2.1):=by
 unfold rdG
 split
 ·exact⟨lr _,hi,.inl rfl⟩
 ·split
  ·split
   ·rename_i h
    have:=zaE h.2 (by decide)
    exact⟨by simp only;omega,by simp only;omega,.inr (.inr (by simp only;omega))⟩
   ·exact⟨lr _,hi,.inr (.inl rfl)⟩
  ·split
   ·rename_i h
    have hlt:i<l.length:=by
     rcases Nat.lt_or_ge i l.length with h1 | h1
     ·exact h1
     ·rw[zaI h1] at h;exact absurd h (by decide)
    exact⟨by simp only;omega,by simp only;omega,.inr (.inr (by simp only;omega))⟩
   ·split
    ·rename_i h
     have hlt:i<l.length:=by
      rcases Nat.lt_or_ge i l.length with h1 | h1
      ·exact h1
      ·rw[zaI h1] at h;exact absurd h (by decide)
     have:=zkp l (i+1);exact⟨by simp only;omega,by simp only;omega,.inr (.inr (by simp only;omega))⟩
    ·split
     ·have:=zkv l i hi
      exact⟨this.1,this.2.1,by rcases this.2.2.1 with h | h;exact .inr (.inl h);exact .inr (.inr h)⟩
     ·split
      ·have:=zmc sv.bS l i hi
       exact⟨this.1,this.2.1,by rcases this.2.2.1 with h | h;exact .inr (.inl h);exact .inr (.inr h)⟩
      ·split
       ·have:=zmZ l i hi
        exact⟨this.1,this.2.1,by rcases this.2.2.1 with h | h;exact .inr (.inl h);exact .inr (.inr h)⟩
       ·exact⟨lr _,hi,.inr (.inl rfl)⟩
def tkG(l:List Int)(cl:Bool)(i:Nat):Tk:=
 ⟨(rdG l cl (ign l false i)).1,(mem.posT l (ign l false i)).1,(mem.posT l (ign l false i)).2,ign l false i,(rdG l cl (ign l false i)).2.1,mem.encS ((l.take (rdG l cl (ign l false i)).2.1).drop (ign l false i)),(rdG l cl (ign l false i)).2.2⟩
theorem zjp(a:Option Addr)(n c:Nat)(cl:Bool)(l:List Int)(i:Nat)(w:World)(h:Row .i32 w a n c l)(hn:n≤1099511627776)(hi:i≤n)(hp:∀ x∈l,mem.scP x)(ha:a=none∨∃ b off,a=some ⟨b,off,none⟩) :
  Calls prog 75 #[src a n c cl,.int .i64 (i:Int)] w fun e w'=>e = .returned (.agg #[.int .i64 (tkG l cl i).k,.int .i64 0,.int .i64 0,.int .i64 (tkG l cl i).fr,.int .i64 (tkG l cl i).to,.string (tkG l cl i).tx,.string (tkG l cl i).va])∧Below w.heap.size w w':=by
 have hl:=Hi h.len;have hsb:=Hi (Sb.new w a n c cl);have h1:=Hi (fun W (hb:Below w.heap.size w W)=>zkh a n c cl l i W (h.below hb) hn hi)
 have g1:=(zey l false i).2 (by rw[h.len];exact hi)
 rw[h.len] at g1;have h2:=Hi (fun W (hb:Below w.heap.size w W)=>zm2 a n c cl l (ign l false i) W (h.below hb) hn g1 hp)
 have g2:=zf3 l cl (ign l false i) (by rw[h.len];exact g1)
 rw[h.len] at g2;obtain⟨F,hF⟩:∃ F,F=ign l false i:=⟨_,rfl⟩;unfold tkG;rw[←hF] at h1 h2 g1 g2 ⊢;obtain⟨T,hT⟩:∃ T,T=(rdG l cl F).2.1:=⟨_,rfl⟩;obtain⟨K,hK⟩:∃ K,K=(rdG l cl F).1:=⟨_,rfl⟩;obtain⟨V,hV⟩:∃ V,V=(rdG l cl F).2.2:=⟨_,rfl⟩;rw[←hT,←hK,←hV] at h2 ⊢;rw[←hT,←hK] at g2;clear hT hK hF hV;have g3:=g2.1;have g4:=g2.2.1;clear g2;unfold src
 go_enter func75,ntmps75
 go_wp2_with fail
 obtain⟨w1,hw1⟩:∃ w1,w1=(w.alloc (.cells #[.slice a n c,.bool cl] 113)).alloc (.cells #[Value.int IntKind.i64 0,Value.int IntKind.i64 0,Value.int IntKind.i64 0,Value.int IntKind.i64 0,Value.int IntKind.i64 0,Value.string { data:=#[] },Value.string { data:=#[] }] 77):=⟨_,rfl⟩;have hs1:Sb w w1 a n c cl:=by rw[hw1];exact (uh hsb).below (ba)
 have hth:Hid (w1.heap[w.heap.size+1]? = some (.cells #[Value.int IntKind.i64 0,Value.int IntKind.i64 0,Value.int IntKind.i64 0,Value.int IntKind.i64 0,Value.int IntKind.i64 0,Value.string { data:=#[] },Value.string { data:=#[] }] 77 (0,0))):=Hi (by
  rw[hw1];have:=heap_alloc_new (w.alloc (.cells #[.slice a n c,.bool cl] 113)) (.cells #[Value.int IntKind.i64 0,Value.int IntKind.i64 0,Value.int IntKind.i64 0,Value.int IntKind.i64 0,Value.int IntKind.i64 0,Value.string { data:=#[] },Value.string { data:=#[] }] 77)
  simpa using this)
 have hz1:w.heap.size+1<w1.heap.size:=by rw[hw1];simp
 rw[←hw1];clear hw1 hsb;refine ((uh h1) w1 hs1.bel).mono ?_
 rintro e w2 ⟨rfl,b2⟩;have hs2:=hs1.below b2;have d0:=hs2.c0;have d1:=hs2.c1
 go_wp2_with fail
 refine ((uh h2) w2 hs2.bel).mono ?_
 rintro e w3 ⟨rfl,b3⟩;have hs3:=hs2.below b3;have b13:=b2.trans (b3.mono b2.size);clear d0 d1 h1 h2;have d0:=hs3.c0;have d1:=hs3.c1
 rcases ha with rfl | ⟨b,off,rfl⟩
 ·have hc0:=h.nil rfl
  subst hc0;have hn0:n=0:=by have:=h.le;omega
  subst hn0;obtain rfl:F=0:=by omega
  obtain rfl:T=0:=by omega
  have hl0:l=[]:=List.eq_nil_of_length_eq_zero (uh hl);subst hl0
  go_wp2_with fail
  refine (mem.zaR none 0 0 [] w3 ⟨rfl,lr _,fun _=>rfl,.inl rfl⟩ (by omega)).mono ?_
  rintro e w4 ⟨rfl,b4⟩;have b14:=b13.trans (b4.mono b13.size);have hbx:=(b14.block (w.heap.size+1) hz1).trans (uh hth);have hbel:=hs1.bel.trans (b14.mono (Nat.le_trans (Nat.le_add_right _ 1) (Nat.le_of_lt hz1)));have hthr:w4.there (w.heap.size+1) 0 7:=zac hbx (by decide)
  have HB:=Hi hbel;clear b13 b14 b4 d0 d1 hbx hbel;obtain⟨S,hS⟩:∃ S,S=mem.encS ([]):=⟨_,rfl⟩;rw[←hS];have HS:=Hi hS;clear hS
  go_wp2_with (first
   | refine wpList_store_mid (by rfl) 77 _ _ (by rfl) (w.heap.size+1) 0 #[.int .i64 K,.int .i64 0,.int .i64 0,.int .i64 (0),.int .i64 (0),.string S,.string V] (by rfl) (by rfl) hthr infoTk (zab (cs:=[.int .i64 K,.int .i64 0,.int .i64 0,.int .i64 (0),.int .i64 (0),.string S,.string V]) (by rfl)) ?_)
  refine bodyPost_ret (rgn.zai rfl _ _ (w.heap.size+1) 0 [.int .i64 K,.int .i64 0,.int .i64 0,.int .i64 (0),.int .i64 (0),.string S,.string V] _ rfl (World.rangeAt_setCells_same _ _ _ _ hthr) underlying77 rfl infoTk) rfl ?_
  exact⟨by first | rfl | (rw[uh HS];simp) | (simp[uh HS]),zad _ _ _ _ (uh HB) (Nat.le_add_right _ 1)⟩
 ·have hle:=h.le
  have k1:(F:Int)≤(T:Int):=by omega
  have k2:(T:Int)≤(c:Int):=by omega
  have hrow:=zf5 (h.below hs3.bel) g3 g4
  by_cases hFc:F=c
  ·subst hFc
   have hrow2:Row .i32 w3 (some ⟨b,off,none⟩) (T-F) 0 ((l.take T).drop F):=⟨hrow.len,by omega,(fun e=>by cases e),.inl (by omega)⟩
   go_wp2_with fail
   refine (mem.zaR (some ⟨b,off,none⟩) (T-F) 0 ((l.take T).drop F) w3 hrow2 (by omega)).mono ?_
   rintro e w4 ⟨rfl,b4⟩;have b14:=b13.trans (b4.mono b13.size);have hbx:=(b14.block (w.heap.size+1) hz1).trans (uh hth);have hbel:=hs1.bel.trans (b14.mono (Nat.le_trans (Nat.le_add_right _ 1) (Nat.le_of_lt hz1)));have hthr:w4.there (w.heap.size+1) 0 7:=zac hbx (by decide)
   have HB:=Hi hbel;clear b13 b14 b4 d0 d1 hbx hbel;obtain⟨S,hS⟩:∃ S,S=mem.encS (((l.take T).drop F)):=⟨_,rfl⟩;rw[←hS];have HS:=Hi hS;clear hS
   go_wp2_with (first
    | refine wpList_store_mid (by rfl) 77 _ _ (by rfl) (w.heap.size+1) 0 #[.int .i64 K,.int .i64 0,.int .i64 0,.int .i64 (F:Int),.int .i64 (T:Int),.string S,.string V] (by rfl) (by rfl) hthr infoTk (zab (cs:=[.int .i64 K,.int .i64 0,.int .i64 0,.int .i64 (F:Int),.int .i64 (T:Int),.string S,.string V]) (by rfl)) ?_)
   refine bodyPost_ret (rgn.zai rfl _ _ (w.heap.size+1) 0 [.int .i64 K,.int .i64 0,.int .i64 0,.int .i64 (F:Int),.int .i64 (T:Int),.string S,.string V] _ rfl (World.rangeAt_setCells_same _ _ _ _ hthr) underlying77 rfl infoTk) rfl ?_
   exact⟨by first | rfl | (rw[uh HS];simp) | (simp[uh HS]),zad _ _ _ _ (uh HB) (Nat.le_add_right _ 1)⟩
  ·have hFc2:¬(F:Int)=(c:Int):=by omega
   go_wp2_with fail
   refine (mem.zaR (some ⟨b,off+F,none⟩) (T-F) (c-F) ((l.take T).drop F) w3 hrow (by omega)).mono ?_
   rintro e w4 ⟨rfl,b4⟩;have b14:=b13.trans (b4.mono b13.size);have hbx:=(b14.block (w.heap.size+1) hz1).trans (uh hth);have hbel:=hs1.bel.trans (b14.mono (Nat.le_trans (Nat.le_add_right _ 1) (Nat.le_of_lt hz1)));have hthr:w4.there (w.heap.size+1) 0 7:=zac hbx (by decide)
   have HB:=Hi hbel;clear b13 b14 b4 d0 d1 hbx hbel;obtain⟨S,hS⟩:∃ S,S=mem.encS (((l.take T).drop F)):=⟨_,rfl⟩;rw[←hS];have HS:=Hi hS;clear hS
   go_wp2_with (first
    | refine wpList_store_mid (by rfl) 77 _ _ (by rfl) (w.heap.size+1) 0 #[.int .i64 K,.int .i64 0,.int .i64 0,.int .i64 (F:Int),.int .i64 (T:Int),.string S,.string V] (by rfl) (by rfl) hthr infoTk (zab (cs:=[.int .i64 K,.int .i64 0,.int .i64 0,.int .i64 (F:Int),.int .i64 (T:Int),.string S,.string V]) (by rfl)) ?_)
   refine bodyPost_ret (rgn.zai rfl _ _ (w.heap.size+1) 0 [.int .i64 K,.int .i64 0,.int .i64 0,.int .i64 (F:Int),.int .i64 (T:Int),.string S,.string V] _ rfl (World.rangeAt_setCells_same _ _ _ _ hthr) underlying77 rfl infoTk) rfl ?_
   exact⟨by first | rfl | (rw[uh HS];simp) | (simp[uh HS]),zad _ _ _ _ (uh HB) (Nat.le_add_right _ 1)⟩
def tksGF(l:List Int)(cl:Bool):Nat→Nat→List Tk
 | 0,i=>[]
 | f+1,i=>if (tkG l cl i).k=0∨(tkG l cl i).k=1 then [tkG l cl i] else tkG l cl i::tksGF l cl f (tkG l cl i).to
theorem zdI(l:List Int)(cl:Bool)(i:Nat)(hi:i≤l.length):(tkG l cl i).fr≤l.length∧(tkG l cl i).to≤l.length∧((tkG l cl i).k=0∨(tkG l cl i).k=1∨i<(tkG l cl i).to):=by
 have h1:=zey l false i;have h2:=zf3 l cl (ign l false i) (h1.2 hi);refine⟨h1.2 hi,h2.2.1,?_⟩
 rcases h2.2.2 with h | h | h
 ·exact .inl h
 ·exact .inr (.inl h)
 ·exact .inr (.inr (Nat.lt_of_le_of_lt h1.1 h))
theorem zdJ(l:List Int)(cl:Bool):∀ (f g i:Nat),l.length<f+i→l.length<g+i→i≤l.length→tksGF l cl f i=tksGF l cl g i
 | 0,g,i,hf,_,hi=>by omega
 | f+1,0,i,_,hg,hi=>by omega
 | f+1,g+1,i,hf,hg,hi=>by
  simp only[tksGF]
  split
  ·rfl
  ·rename_i h
   have h2:=zdI l cl i hi
   have h3:i<(tkG l cl i).to:=by
    rcases h2.2.2 with e | e | e
    ·exact absurd (.inl e) h
    ·exact absurd (.inr e) h
    ·exact e
   rw[zdJ l cl f g (tkG l cl i).to (by omega) (by omega) h2.2.1]
def tksG(l:List Int)(cl:Bool)(i:Nat):List Tk:=tksGF l cl (l.length+1) i
theorem zj0{l:List Int}{cl:Bool}{i:Nat}(h:(tkG l cl i).k=0∨(tkG l cl i).k=1):tksG l cl i=[tkG l cl i]:=by
 unfold tksG;rw[tksGF,if_pos h]
theorem ziw{l:List Int}{cl:Bool}{i:Nat}(hi:i≤l.length)(h:¬((tkG l cl i).k=0∨(tkG l cl i).k=1)):tksG l cl i=tkG l cl i::tksG l cl (tkG l cl i).to:=by
 have h2:=zdI l cl i hi
 have h3:i<(tkG l cl i).to:=by
  rcases h2.2.2 with e | e | e
  ·exact absurd (.inl e) h
  ·exact absurd (.inr e) h
  ·exact e
 unfold tksG;rw[show tksGF l cl (l.length+1) i=tkG l cl i::tksGF l cl l.length (tkG l cl i).to from by rw[tksGF,if_neg h]]
 rw[zdJ l cl l.length (l.length+1) (tkG l cl i).to (by omega) (by omega) h2.2.1]
theorem zbA{n:Nat}{l:List Int}{cl:Bool}{k:Nat}{t:Tk}{pre:List Tk}{w w6 w7:World}{B:Nat}{sl:Value}(hn:n≤1099511627776)(hend:t.k=0∨t.k=1)(hpre:pre++tksG l cl k=tksG l cl 0)(ht:t=tkG l cl k)
  (hr:w7.ownsRow B 77 7 sl (pre.length+1) (pre.flatMap Tk.cells++[.int .i64 t.k,.int .i64 t.ln,.int .i64 t.co,.int .i64 t.fr,.int .i64 t.to,.string t.tx,.string t.va])) (hb:Below w.heap.size w w6) (hb7:Below B w6 w7) (hB:w.heap.size≤B) :
  ∃ p cap,Ending.returned sl = .returned (.slice (some ⟨p,0,none⟩) (tksG l cl 0).length cap)∧w.heap.size≤p∧p<w7.heap.size∧(∀ i t,(tksG l cl 0)[i]? = some t→dt.RowAt w7 p (i * 7) t.cells)∧Below w.heap.size w w7:=by
 subst ht;have htk:tksG l cl 0=pre++[tkG l cl k]:=by rw[←hpre,zj0 hend]
 have hcs:pre.flatMap Tk.cells++[.int .i64 (tkG l cl k).k,.int .i64 (tkG l cl k).ln,.int .i64 (tkG l cl k).co,.int .i64 (tkG l cl k).fr,.int .i64 (tkG l cl k).to,.string (tkG l cl k).tx,.string (tkG l cl k).va]=(tksG l cl 0).flatMap Tk.cells:=by
  rw[htk,List.flatMap_append];simp[Tk.cells]
 have hlen:pre.length+1=(tksG l cl 0).length:=by rw[htk];simp
 rw[hcs,hlen] at hr;have hr2:=hr;have hlt:=hr.lt;obtain⟨h1,h2⟩:=hr
 rcases h2 with ⟨_,h3⟩ | ⟨g,cap,cur,rfl,hg,hh,hnc,r⟩
 ·omega
 ·refine⟨g,cap,rfl,Nat.le_trans hB hg,(hlt g rfl).2,fun i t ht j u hu=>?_,hb.trans (hb7.mono hB)⟩
  have hi:i<(tksG l cl 0).length:=(List.getElem?_eq_some_iff.1 ht).1
  have hj:j<7:=(List.getElem?_eq_some_iff.1 hu).1
  rw[World.ownsRow.cellAt hr2 (i * 7+j) (by omega)]
  rw[flat7 _ i j t ht hj];exact hu
def chs(z:List Int):List Int:=(mem.decZ z).1
def cln(z:List Int):Bool:=decide ((mem.decZ z).2=z.length)
def toks(z:List Int):List Tk:=tksG (chs z) (cln z) 0
theorem zmh{z:List Int}(hz:mem.Byt z):∀ x∈chs z,mem.scP x:=fun x hx=>(mem.zdn x).1 (List.all_eq_true.1 (mem.zbF _ z hz).2.2.1 x hx)
theorem zgV(a:Option Addr)(n0 c:Nat)(z:List Int)(w:World)(h:Row .u8 w a n0 c z)(hn0:n0≤1099511627776)(hz:mem.Byt z) :
  Calls prog 27 #[.slice a n0 c] w fun e w'=>∃ p cap,e = .returned (.slice (some ⟨p,0,none⟩) (toks z).length cap)∧w.heap.size≤p∧p<w'.heap.size∧(∀ i t,(toks z)[i]? = some t→dt.RowAt w' p (i * 7) t.cells)∧Below w.heap.size w w':=by
 have hD:=Hi (mem.zcK a n0 c z w h hz (by omega))
 have hn1:=Nat.le_trans (mem.zcR z hz) (mem.zc3 z hz);have hp:=zmh hz;unfold toks;obtain⟨l,hl⟩:∃ l,l=chs z:=⟨_,rfl⟩;obtain⟨g0,hg0⟩:∃ g0:Nat,g0=(mem.decZ z).2:=⟨_,rfl⟩;have hcl:cln z=decide (g0=n0):=by unfold cln;rw[hg0,h.len]
 rw[hcl];rw[show (mem.decZ z).1=l from hl.symm,←hg0] at hD
 rw[←hl] at hp ⊢
 have hn:l.length≤1099511627776:=by
  rw[hl];unfold chs;rw[h.len] at hn1;omega
 clear hl hg0 hcl hn1;obtain⟨cl,hcl⟩:∃ cl,cl=decide (g0=n0):=⟨_,rfl⟩;rw[←hcl]
 have hce:((g0:Int)==(n0:Int))=cl:=by
  rw[hcl,Bool.eq_iff_iff,beq_iff_eq,decide_eq_true_iff];omega
 clear hcl;obtain⟨n,hne⟩:∃ n,n=l.length:=⟨_,rfl⟩;rw[←hne] at hD hn;have Hne:=Hi hne;clear hne
 go_enter func27,ntmps27
 go_wp2_with fail
 refine (uh hD).mono ?_
 rintro e w1 ⟨v,rfl,hown,b1⟩;obtain⟨a1,c1,rfl,hrow⟩:=mem.zay hown
 have ha1:a1=none∨∃ b off,a1=some ⟨b,off,none⟩:=by
  rcases hown.2 with ⟨e,_⟩ | ⟨g,cap,cur,e,_⟩
  ·left;simp at e;exact e.1
  ·right;simp at e;exact⟨g,0,e.1⟩
 clear hD hown;have hsb:=Sb.new w1 a1 n c1 cl
 go_wp2_with fail
 obtain⟨w2,hw2⟩:∃ w2,w2=w1.alloc (.cells #[.slice a1 n c1,.bool cl] 113):=⟨_,rfl⟩;rw[←hw2] at hsb ⊢;clear hw2;refine (mem.zdC a1 n c1 l w2 (hrow.below hsb.bel) hn).mono ?_
 rintro e w3 ⟨rfl,hpl,b3⟩;have hs3:=hsb.below b3;obtain⟨pb,hpb⟩:∃ pb,pb=w2.heap.size+1:=⟨_,rfl⟩;rw[←hpb] at hpl ⊢;have hpc:=Hi (fun k hk=>World.ownsRow.cellAt hpl k hk)
 have hplt:=(hpl.lt pb rfl).2;clear hpl;have hplc:=Hi (fun f (hf:f<n+1)=>zdh l (n+1) f hf)
 go_wp2_with fail
 rw[←hpb];clear hpb
 go_loopg [7,8] (n+1) (fun g vs vi wr=>∃ (k:Nat) (pre:List Tk),k≤n∧n+1≤g+k∧vi = .int .i64 k∧Hid (pre++tksG l cl k=tksG l cl 0)∧Hid (wr.ownsRow w3.heap.size 77 7 vs pre.length (pre.flatMap Tk.cells))∧pre.length≤k∧Below w3.heap.size w3 wr)
 case atStart=>exact⟨0,[],Nat.zero_le _,by omega,rfl,Hi rfl,Hi (World.ownsRow_nil _ _ _ _),Nat.zero_le _,Below.refl _ _⟩
 case round =>
  obtain⟨k,pre,hk,hg,rfl,hpre,hown,hpk,hb⟩:=hrel;have hsr:=hs3.below hb;have d0:=hsr.c0;have d1:=hsr.c1
  go_wp2_with fail
  refine (zjp a1 n c1 cl l k wr (hrow.below hsr.bel) hn hk hp ha1).mono ?_
  rintro e w5 ⟨rfl,b5⟩;have htl:=zdI l cl k (by rw[hrow.len];exact hk)
  rw[hrow.len] at htl;obtain⟨hfr,hto,hprog⟩:=htl;have hln:=Hi (show (tkG l cl k).ln=(mem.posT l (tkG l cl k).fr).1∧(tkG l cl k).co=(mem.posT l (tkG l cl k).fr).2 from ⟨rfl,rfl⟩)
  obtain⟨t,ht⟩:∃ t,t=tkG l cl k:=⟨_,rfl⟩;rw[←ht] at hfr hto hprog hln ⊢;have Ht:=Hi ht;clear ht d0 d1;have b35:=hb.trans (b5.mono hb.size)
  have hcs:∀ o,(w5.alloc o).cell? ⟨pb,t.fr * 2,none⟩=some (.int .i64 t.ln)∧(w5.alloc o).cell? ⟨pb,t.fr * 2+1,none⟩=some (.int .i64 t.co):=fun o=>by
   have bA:Below w3.heap.size w3 (w5.alloc o):=b35.alloc b35.size o;have h1:=(uh hplc) t.fr (by omega)
   rw[bA.cell (p:=⟨pb,t.fr * 2,none⟩) hplt,bA.cell (p:=⟨pb,t.fr * 2+1,none⟩) hplt,(uh hpc) (t.fr * 2) (by omega),(uh hpc) (t.fr * 2+1) (by omega),(uh hln).1,(uh hln).2]
   exact h1
  have k0:=fun o=>(hcs o).1
  have k1:=fun o=>(hcs o).2
  clear hcs;obtain⟨it,zt,q1,q2,q3,q4,q5⟩:=infoTz;have HQ:=Hi (an q1 (an q2 (an q3 (an q4 q5))));clear q1 q2 q3 q4 q5;have hown6:=Hi (fun o=>World.ownsRow.alloc (mem.zah (uh hown) b5) o)
  have hbyt:=Hi (show (pre.length+1) * 72≤140737488355328∧pre.length+1≤maxLen from ⟨by omega,by unfold maxLen;omega⟩)
  have hsz6:=Hi (fun o=>show w3.heap.size≤(w5.alloc o).heap.size from by have:=b35.size;simp;omega)
  have hone:Hid (∀ u∈[Value.int .i64 t.k,.int .i64 t.ln,.int .i64 t.co,.int .i64 t.fr,.int .i64 t.to,.string t.tx,.string t.va],u.oneCell'=true):=Hi (by intro u hu;simp at hu;rcases hu with rfl | rfl | rfl | rfl | rfl | rfl | rfl <;> rfl)
  have HB:=Hi b35;have hne:=Hi (show u7.ownBlock≠some w5.heap.size from fun e=>by have:=((uh hown).lt _ e).2;have:=b5.size;omega)
  have Hpk:=Hi hpk;have Hk:=Hi hk;clear b35 hk hpk
  by_cases hk0:t.k=0
  ·have e0:(t.k==0)=true:=by simpa using hk0
   have Hend:=Hi (show t.k=0∨t.k=1 from .inl hk0)
   clear hk0
   go_wp2_with (first
    | (at_builtin;refine dt.zaq (by rfl) _ _ (by rfl) underlying69 (uh HQ).1 (uh HQ).2.1 (uh HQ).2.2.1 (uh HQ).2.2.2.1 (uh HQ).2.2.2.2 (by omega) w3.heap.size pre.length (pre.flatMap Tk.cells) _ (by rfl) ((uh hown6) _) [.int .i64 t.k,.int .i64 t.ln,.int .i64 t.co,.int .i64 t.fr,.int .i64 t.to,.string t.tx,.string t.va] (by rfl) (uh hone) (w5.heap.size+1) (by simp) (by rfl) (uh hbyt).1 (uh hbyt).2 ((uh hsz6) _) ?_;intro sl' w7 hr7 b7 hold7 hat7;have T7:=(hold7 w5.heap.size (by simp) (uh hne)).trans (heap_alloc_new _ _);have f0:w7.cell? ⟨w5.heap.size,0,none⟩=some (.int .i64 t.k):=(zG T7 0).trans rfl;have f4:w7.cell? ⟨w5.heap.size,4,none⟩=some (.int .i64 t.to):=(zG T7 4).trans rfl;clear T7;have R7:=Hi hr7;clear hr7;have B7:=Hi b7;clear b7 hold7 hat7))
   go_ret
   exact zbA hn (uh Hend) (uh hpre) (uh Ht) (uh R7) (b1.trans ((hs3.bel.trans (((uh HB).alloc (uh HB).size _).mono (Nat.le_of_lt hs3.lt))).mono b1.size)) (uh B7) (Nat.le_trans b1.size (Nat.le_of_lt hs3.lt))
  by_cases hk1:t.k=1
  ·have e0:(t.k==0)=false:=by simpa using hk0
   have e1:(t.k==1)=true:=by simpa using hk1
   have Hend:=Hi (show t.k=0∨t.k=1 from .inr hk1)
   clear hk0 hk1
   go_wp2_with (first
    | (at_builtin;refine dt.zaq (by rfl) _ _ (by rfl) underlying69 (uh HQ).1 (uh HQ).2.1 (uh HQ).2.2.1 (uh HQ).2.2.2.1 (uh HQ).2.2.2.2 (by omega) w3.heap.size pre.length (pre.flatMap Tk.cells) _ (by rfl) ((uh hown6) _) [.int .i64 t.k,.int .i64 t.ln,.int .i64 t.co,.int .i64 t.fr,.int .i64 t.to,.string t.tx,.string t.va] (by rfl) (uh hone) (w5.heap.size+1) (by simp) (by rfl) (uh hbyt).1 (uh hbyt).2 ((uh hsz6) _) ?_;intro sl' w7 hr7 b7 hold7 hat7;have T7:=(hold7 w5.heap.size (by simp) (uh hne)).trans (heap_alloc_new _ _);have f0:w7.cell? ⟨w5.heap.size,0,none⟩=some (.int .i64 t.k):=(zG T7 0).trans rfl;have f4:w7.cell? ⟨w5.heap.size,4,none⟩=some (.int .i64 t.to):=(zG T7 4).trans rfl;clear T7;have R7:=Hi hr7;clear hr7;have B7:=Hi b7;clear b7 hold7 hat7))
   go_ret
   exact zbA hn (uh Hend) (uh hpre) (uh Ht) (uh R7) (b1.trans ((hs3.bel.trans (((uh HB).alloc (uh HB).size _).mono (Nat.le_of_lt hs3.lt))).mono b1.size)) (uh B7) (Nat.le_trans b1.size (Nat.le_of_lt hs3.lt))
  ·have e0:(t.k==0)=false:=by simpa using hk0
   have e1:(t.k==1)=false:=by simpa using hk1
   have Hend:=Hi (show ¬(t.k=0∨t.k=1) from fun e=>by rcases e with e | e;exact hk0 e;exact hk1 e)
   have hto2:k<t.to:=by
    rcases hprog with e | e | e
    ·exact absurd e hk0
    ·exact absurd e hk1
    ·exact e
   clear hk0 hk1 hprog
   go_wp2_with (first
    | (at_builtin;refine dt.zaq (by rfl) _ _ (by rfl) underlying69 (uh HQ).1 (uh HQ).2.1 (uh HQ).2.2.1 (uh HQ).2.2.2.1 (uh HQ).2.2.2.2 (by omega) w3.heap.size pre.length (pre.flatMap Tk.cells) _ (by rfl) ((uh hown6) _) [.int .i64 t.k,.int .i64 t.ln,.int .i64 t.co,.int .i64 t.fr,.int .i64 t.to,.string t.tx,.string t.va] (by rfl) (uh hone) (w5.heap.size+1) (by simp) (by rfl) (uh hbyt).1 (uh hbyt).2 ((uh hsz6) _) ?_;intro sl' w7 hr7 b7 hold7 hat7;have T7:=(hold7 w5.heap.size (by simp) (uh hne)).trans (heap_alloc_new _ _);have f0:w7.cell? ⟨w5.heap.size,0,none⟩=some (.int .i64 t.k):=(zG T7 0).trans rfl;have f4:w7.cell? ⟨w5.heap.size,4,none⟩=some (.int .i64 t.to):=(zG T7 4).trans rfl;clear T7;have R7:=Hi hr7;clear hr7;have B7:=Hi b7;clear b7 hold7 hat7))
   go_roundg (gk-1)
   case rel =>
    refine⟨t.to,pre++[t],hto,by omega,rfl,Hi ?_,Hi ?_,?_,?_⟩
    ·have e:=ziw (l:=l) (i:=k) (by rw[hrow.len];exact uh Hk) (by rw[←uh Ht];exact uh Hend)
     rw[←uh Ht] at e;rw[←uh hpre,e];simp
    ·have:=uh R7
     rw[List.flatMap_append,List.length_append]
     simpa[Tk.cells] using this
    ·have:=uh Hpk
     rw[List.length_append]
     show pre.length+1≤t.to
     omega
    ·exact ((uh HB).alloc (uh HB).size _).trans (uh B7)
   case measure=>omega
end lx
namespace cr
open ints (Hi uh)
open dt (Dt Kp RowAt)
open cu
structure RurAt (w:World) (B p:Nat) (c:Cu):Prop where
 ok:c.Ok
 len:c.ts.length≤1099511627777
 box:∃ cap,w.heap[B]? = some (.cells #[.slice (some ⟨p,0,none⟩) c.ts.length cap,.int .i64 c.ix,.int .i64 c.op,.int .i64 c.mo,.int .i64 c.kd] 74 (0,0))∧p≠B∧p<w.heap.size∧∀ i t,c.ts[i]? = some t→RowAt w p (i * 7) t.cells
theorem RurAt.lt{w:World}{B p:Nat}{c:Cu}(h:RurAt w B p c):B<w.heap.size:=by
 obtain⟨cap,h1,_⟩:=h.box;exact (Array.getElem?_eq_some_iff.1 h1).1
theorem RurAt.below{w w':World}{B p:Nat}{c:Cu}(h:RurAt w B p c)(hb:Below w.heap.size w w'):RurAt w' B p c:=by
 have hlt:=h.lt;obtain⟨cap,h1,h2,h3,h4⟩:=h.box;exact⟨h.ok,h.len,cap,(hb.block B hlt).trans h1,h2,Nat.lt_of_lt_of_le h3 hb.size,fun i t ht=>(h4 i t ht).below hb⟩
theorem RurAt.plt{w:World}{B p:Nat}{c:Cu}(h:RurAt w B p c):p<w.heap.size:=by
 obtain⟨cap,h1,h2,h3,h4⟩:=h.box;exact h3
theorem RurAt.out{w:World}{B p:Nat}{c:Cu}(h:RurAt w B p c){b:Nat}(hb:B≠b)(hp:p≠b)(o:Nat)(vs:List Value):RurAt (w.setCells b o vs) B p c:=by
 obtain⟨cap,h1,h2,h3,h4⟩:=h.box;exact⟨h.ok,h.len,cap,(dt.zae b B hb vs o w).trans h1,h2,by rw[dt.zag];exact h3,fun i t ht j u hu=>(dt.zaf (dt.zae b p hp vs o w) _).trans (h4 i t ht j u hu)⟩
theorem RurAt.ix{w:World}{B p:Nat}{c:Cu}(h:RurAt w B p c)(i:Nat)(hok:(⟨c.ts,i,c.op,c.mo,c.kd⟩:Cu).Ok):RurAt (w.setCell ⟨B,1,none⟩ (.int .i64 i)) B p ⟨c.ts,i,c.op,c.mo,c.kd⟩:=by
 obtain⟨cap,h1,h2,h3,h4⟩:=h.box;exact⟨hok,h.len,cap,(dt.zaj h1 1 _).trans rfl,h2,by simpa using h3,fun j t ht m u hu=>((Kp.refl B w).set 1 (.int .i64 i)).cell h3 h2 |>.trans (h4 j t ht m u hu)⟩
theorem RurAt.opn{w:World}{B p:Nat}{c:Cu}(h:RurAt w B p c)(i:Nat)(hok:(⟨c.ts,c.ix,i,c.mo,c.kd⟩:Cu).Ok):RurAt (w.setCell ⟨B,2,none⟩ (.int .i64 i)) B p ⟨c.ts,c.ix,i,c.mo,c.kd⟩:=by
 obtain⟨cap,h1,h2,h3,h4⟩:=h.box;exact⟨hok,h.len,cap,(dt.zaj h1 2 _).trans rfl,h2,by simpa using h3,fun j t ht m u hu=>((Kp.refl B w).set 2 (.int .i64 i)).cell h3 h2 |>.trans (h4 j t ht m u hu)⟩
theorem RurAt.kind{w:World}{B p:Nat}{c:Cu}(h:RurAt w B p c)(k:Int):RurAt (w.setCell ⟨B,4,none⟩ (.int .i64 k)) B p ⟨c.ts,c.ix,c.op,c.mo,k⟩:=by
 obtain⟨cap,h1,h2,h3,h4⟩:=h.box;exact⟨⟨h.ok.lt,h.ok.more,h.ok.op,h.ok.mo⟩,h.len,cap,(dt.zaj h1 4 _).trans rfl,h2,by simpa using h3,fun j t ht m u hu=>((Kp.refl B w).set 4 (.int .i64 k)).cell h3 h2 |>.trans (h4 j t ht m u hu)⟩
theorem RurAt.c2{w:World}{B p:Nat}{c:Cu}(h:RurAt w B p c):w.cell? ⟨B,2,none⟩=some (.int .i64 c.op)∧w.cell? ⟨B,3,none⟩=some (.int .i64 c.mo)∧w.frozen? ⟨B,2,none⟩=false∧w.cell? ⟨B,4,none⟩=some (.int .i64 c.kd):=by
 obtain⟨cap,h1,h2,h3,h4⟩:=h.box;exact⟨(zG h1 2).trans rfl,(zG h1 3).trans rfl,dt.zak h1 2,(zG h1 4).trans rfl⟩
theorem RurAt.c01{w:World}{B p:Nat}{c:Cu}(h:RurAt w B p c):∃ cap,w.cell? ⟨B,0,none⟩=some (.slice (some ⟨p,0,none⟩) c.ts.length cap)∧w.cell? ⟨B,1,none⟩=some (.int .i64 c.ix)∧w.frozen? ⟨B,1,none⟩=false∧w.frozen? ⟨B,4,none⟩=false:=by
 obtain⟨cap,h1,h2,h3,h4⟩:=h.box;exact⟨cap,(zG h1 0).trans rfl,(zG h1 1).trans rfl,dt.zak h1 1,dt.zak h1 4⟩
theorem RurAt.tk{w:World}{B p:Nat}{c:Cu}(h:RurAt w B p c):RowAt w p (c.ix * 7) c.tok.cells:=by
 obtain⟨cap,h1,h2,h3,h4⟩:=h.box;exact h4 c.ix c.tok (c.get h.ok.lt)
def isK(c:Cu)(K:Int)(q:ByteArray):Bool:=decide (c.kd=0∧c.tok.k=K∧c.tok.tx=q)
theorem zla(B p:Nat)(c:Cu)(K:Int)(q:ByteArray)(w:World)(h:RurAt w B p c):Calls prog 80 #[ptr B,.int .i64 K,.string q] w fun e w'=>e = .returned (.bool (isK c K q))∧Below w.heap.size w w':=by
 have hlt:=h.lt;have hplt:=h.plt;have hix:=h.ok.lt;have hlen:=h.len;have hr:=h.tk;obtain⟨cap,d0,d1,-,-⟩:=h.c01;obtain⟨-,-,-,d4⟩:=h.c2;have hP:=Hi (show isK c K q=decide (c.kd=0∧c.tok.k=K∧c.tok.tx=q) from rfl)
 obtain⟨R,hR⟩:∃ R,R=isK c K q:=⟨_,rfl⟩;rw[←hR] at hP ⊢;obtain⟨ix,hk⟩:∃ ix,ix=c.ix:=⟨_,rfl⟩;obtain⟨n,hk2⟩:∃ n,n=c.ts.length:=⟨_,rfl⟩;obtain⟨t,hk3⟩:∃ t,t=c.tok:=⟨_,rfl⟩;obtain⟨kd,hk4⟩:∃ kd,kd=c.kd:=⟨_,rfl⟩;rw[←hk,←hk2] at hix;rw[←hk2] at d0 hlen;rw[←hk] at d1 hr;rw[←hk3] at hr hP;rw[←hk4] at hP d4;clear h hk hk2 hk3 hk4 hR;have bA:∀ o,Below w.heap.size w (w.alloc o):=fun o=>ba
 have D4:=qc hlt d4;have ii:(ix:Int)<(n:Int):=by omega
 have E:∀ (j:Nat) (u:Value),t.cells[j]? = some u→w.cell? ⟨p,ix * 7+j,none⟩=some u:=fun j u hu=>hr j u hu
 have e0:w.cell? ⟨p,ix * 7,none⟩=some (.int .i64 t.k):=E 0 _ rfl;have e1:w.cell? ⟨p,ix * 7+1,none⟩=some (.int .i64 t.ln):=E 1 _ rfl;have e2:w.cell? ⟨p,ix * 7+2,none⟩=some (.int .i64 t.co):=E 2 _ rfl;have e3:w.cell? ⟨p,ix * 7+3,none⟩=some (.int .i64 t.fr):=E 3 _ rfl;have e4:w.cell? ⟨p,ix * 7+4,none⟩=some (.int .i64 t.to):=E 4 _ rfl;have e5:w.cell? ⟨p,ix * 7+5,none⟩=some (.string t.tx):=E 5 _ rfl
 have e6:w.cell? ⟨p,ix * 7+6,none⟩=some (.string t.va):=E 6 _ rfl;have HA:=Hi bA;clear E hr bA d4;unfold ptr
 go_enter func80,ntmps80
 go_wp2_with fail
 go_region
 have HB:=Hi (fun o=>Go.below_drewN ((uh HA) o) 1)
 by_cases h0:kd=0
 ·subst h0
  by_cases h1:t.k=K
  ·have b1:(t.k==K)=true:=by simpa using h1
   have hP2:=Hi (show R=decide (t.tx=q) from by rw[uh hP];simp[h1])
   clear h1
   go_wp2_with fail
   go_ret
   exact⟨by rw[uh hP2,←zeh];rfl,(uh HB) _⟩
  ·have b1:(t.k==K)=false:=by simpa using h1
   have hP2:=Hi (show R=false from by rw[uh hP];simp[h1])
   clear h1
   go_wp2_with fail
   go_ret
   exact⟨by rw[uh hP2];first | rfl | simp,(uh HB) _⟩
 ·have b0:(kd==0)=false:=by simpa using h0
  have hP2:=Hi (show R=false from by rw[uh hP];simp[h0])
  clear h0
  go_wp2_with fail
  go_ret
  exact⟨by rw[uh hP2];first | rfl | simp,(uh HB) _⟩
theorem zam(B p:Nat)(c:Cu)(q:ByteArray)(w:World)(h:RurAt w B p c):Calls prog 34 #[ptr B,.string q] w fun e w'=>e = .returned (.bool (c.isP q))∧Below w.heap.size w w':=by
 have hi:=Hi (zla B p c 2 q w h);rw[show isK c 2 q=c.isP q from rfl] at hi
 unfold ptr at hi ⊢
 go_enter func34,ntmps34
 go_wp2_with fail
 refine (uh hi).mono ?_
 rintro e w1 ⟨rfl,b1⟩
 go_wp2_with fail
 go_ret
 exact⟨rfl,b1⟩
theorem cell0{w:World}{B p:Nat}{c:Cu}(h:RurAt w B p c)(o:Nat)(ho:o≠0)(v:Value):(w.setCell ⟨B,o,none⟩ v).cell? ⟨B,0,none⟩=w.cell? ⟨B,0,none⟩:=by
 obtain⟨cap,h1,_⟩:=h.box;rw[zG (dt.zaj h1 o v) 0,zG h1 0];simp[ho]
theorem zgc(B p:Nat)(c:Cu)(k:Int)(w:World)(h:RurAt w B p c):Calls prog 71 #[ptr B,.int .i64 k] w fun e w'=>e = .returned (.tuple #[])∧RurAt w' B p (c.stop k)∧Kp B w w'∧w'.cell? ⟨B,0,none⟩=w.cell? ⟨B,0,none⟩:=by
 have hK:=Hi h.kind;obtain⟨-,-,-,d4⟩:=h.c2;obtain⟨cap,-,-,-,f4⟩:=h.c01;have hs:=Hi (show c.stop k=if c.kd=0 then ⟨c.ts,c.ix,c.op,c.mo,k⟩ else c from rfl)
 have HH:=Hi h;clear h;unfold ptr
 by_cases hk:c.kd=0
 ·have ek:(c.kd==0)=true:=by simpa using hk
  have hs2:=Hi (show c.stop k=⟨c.ts,c.ix,c.op,c.mo,k⟩ from by rw[uh hs,if_pos hk])
  clear hk hs
  go_enter func71,ntmps71
  go_wp2_with fail
  go_end0
  rw[uh hs2];exact⟨rfl,(uh hK) k,(Kp.refl _ _).set 4 _,cell0 (uh HH) 4 (by decide) _⟩
 ·have ek:(c.kd==0)=false:=by simpa using hk
  have hs2:=Hi (show c.stop k=c from by rw[uh hs,if_neg hk])
  clear hk hs
  go_enter func71,ntmps71
  go_wp2_with fail
  go_end0
  rw[uh hs2];exact⟨rfl,uh HH,Kp.refl _ _,rfl⟩
theorem zbQ(B p:Nat)(c:Cu)(k:Int)(w:World)(h:RurAt w B p c):Calls prog 71 #[ptr B,.int .i64 k] w fun e w'=>e = .returned (.tuple #[])∧RurAt w' B p (c.stop k)∧Kp B w w':=
 (zgc B p c k w h).mono fun e w' ⟨h1,h2,h3,_⟩=>⟨h1,h2,h3⟩
theorem RurAt.tak{w:World}{B p:Nat}{c:Cu}(h:RurAt w B p c)(hm:c.ix+1<c.ts.length):RurAt (w.setCell ⟨B,1,none⟩ (.int .i64 ((c.ix:Int)+1))) B p c.take:=by
 have:=h.ix (c.ix+1) ⟨hm,h.ok.more,h.ok.op,h.ok.mo⟩;rw[show (((c.ix+1:Nat):Int))=(c.ix:Int)+1 by omega] at this
 exact this
theorem zbe(B p:Nat)(c:Cu)(q:ByteArray)(w:World)(h:RurAt w B p c):Calls prog 38 #[ptr B,.string q] w fun e w'=>e = .returned (.bool (c.isP q))∧RurAt w' B p (c.punct q)∧Kp B w w':=by
 have hi:=Hi (zam B p c q w h);have HH:=Hi h;have hlt:=h.lt
 cases hP:c.isP q with
 | false =>
  have hs:=Hi (show c.punct q=c from by simp[Cu.punct,hP])
  rw[hP] at hi;clear h hP;unfold ptr at hi ⊢
  go_enter func38,ntmps38
  go_wp2_with fail
  refine (uh hi).mono ?_
  rintro e w1 ⟨rfl,b1⟩
  go_wp2_with fail
  go_ret
  exact⟨rfl,by rw[uh hs];exact (uh HH).below b1,Kp.of b1⟩
 | true =>
  have hs:=Hi (show c.punct q=c.take from by simp[Cu.punct,hP])
  have hm:=zaF h.ok hP;have hlen:=h.len;rw[hP] at hi;clear hP h;unfold ptr at hi ⊢
  go_enter func38,ntmps38
  go_wp2_with fail
  refine (uh hi).mono ?_
  rintro e w1 ⟨rfl,b1⟩;have h1:=(uh HH).below b1;obtain⟨cap,-,d1,f1,-⟩:=h1.c01;have HT:=Hi (h1.tak hm);have hn:(c.ix:Int)+1<9223372036854775807:=by omega
  clear hi h1;obtain⟨ix,hix⟩:∃ ix,ix=c.ix:=⟨_,rfl⟩;rw[←hix] at d1 HT hn;clear hix
  go_wp2_with fail
  go_ret
  exact⟨rfl,by rw[uh hs];exact uh HT,(Kp.of b1).trans ((Kp.refl _ _).set 1 _)⟩
theorem zbB(B p:Nat)(c:Cu)(q:ByteArray)(w:World)(h:RurAt w B p c):Calls prog 42 #[ptr B,.string q] w fun e w'=>e = .returned (.bool (c.isP q))∧RurAt w' B p (c.want q)∧Kp B w w':=by
 have hi:=Hi (zbe B p c q w h);have hS:=Hi (fun W (hc:RurAt W B p c)=>zbQ B p c 70 W hc)
 cases hP:c.isP q with
 | false =>
  have hs:=Hi (show c.want q=c.stop 70 from by simp[Cu.want,hP])
  rw[hP,show c.punct q=c from by simp[Cu.punct,hP]] at hi
  clear h hP;unfold ptr at hi hS ⊢
  go_enter func42,ntmps42
  go_wp2_with fail
  refine (uh hi).mono ?_
  rintro e w1 ⟨rfl,hc,hk⟩
  go_wp2_with fail
  refine (uh hS _ hc).mono ?_
  rintro e w2 ⟨rfl,hc2,hk2⟩
  go_wp2_with fail
  go_ret
  exact⟨rfl,by rw[uh hs];exact hc2,hk.trans hk2⟩
 | true =>
  have hs:=Hi (show c.want q=c.punct q from by simp[Cu.want,Cu.punct,hP])
  rw[hP] at hi;clear h hP;unfold ptr at hi ⊢
  go_enter func42,ntmps42
  go_wp2_with fail
  refine (uh hi).mono ?_
  rintro e w1 ⟨rfl,hc,hk⟩
  go_wp2_with fail
  go_ret
  exact⟨rfl,by rw[uh hs];exact hc,hk⟩
theorem zcw(B:Nat)(w:World):Calls prog 36 #[ptr B,.slice none 0 0] w fun e w'=>e = .returned (.bool false)∧w'=w:=by
 unfold ptr
 go_enter func36,ntmps36
 go_wp2_with fail
 refine wp_loop_rounds 1 ?_
 rw[rounds_succ]
 go_wp2_with fail
 go_ret
 exact⟨rfl,rfl⟩
theorem zd6(B p:Nat)(c:Cu)(so:Bool)(w:World)(h:RurAt w B p c)(hm:so=true→c.ix+1<c.ts.length):Calls prog 85 #[ptr B,.bool so] w fun e w' =>
  e = .returned (.tuple #[.agg (if so then [Value.string c.tok.tx,.int .i64 c.tok.ln,.int .i64 c.tok.co] else [.string em,.int .i64 0,.int .i64 0]).toArray,.bool so])∧RurAt w' B p (if so then c.take else c.stop 70)∧Kp B w w'∧w'.cell? ⟨B,0,none⟩=w.cell? ⟨B,0,none⟩:=by
 have hlt:=h.lt;have hplt:=h.plt;have hne:B≠w.heap.size:=by omega
 have hnp:p≠w.heap.size:=by omega
 have bA:=qA w;have hZ:=qz hlt
 cases so with
 | false =>
  have hS:=Hi (fun W (bb:Below w.heap.size w W)=>zgc B p c 70 W (h.below bb))
  clear h;unfold ptr at hS ⊢
  go_enter func85,ntmps85
  go_wp2_with fail
  refine ((uh hS) _ ((uh bA) _)).mono ?_
  rintro e w1 ⟨rfl,hc,hk,hz⟩;have HZ0:=Hi (hz.trans (((uh bA) _).cell (p:=⟨B,0,none⟩) hlt));clear hz;have hth:w1.there w.heap.size 0 3:=dt.zac ((uh hZ) _ w1 hk) (by decide)
  have HK:=Hi ((Kp.of ((uh bA) _)).trans hk);have HC:=Hi hc;clear hS hk hc hZ bA
  go_wp2_with (first
   | refine wpList_store_mid (by rfl) 84 _ _ (by rfl) w.heap.size 0 #[.string ⟨#[]⟩,.int .i64 0,.int .i64 0] (by rfl) (by rfl) hth infoNm (dt.zab (cs:=[.string ⟨#[]⟩,.int .i64 0,.int .i64 0]) (by rfl)) ?_)
  refine bodyPost_ret (rgn.zaa rfl _ _ w.heap.size 0 [.string ⟨#[]⟩,.int .i64 0,.int .i64 0] _ rfl (World.rangeAt_setCells_same _ _ _ _ hth) underlying84 rfl infoNm) rfl ?_
  exact⟨rfl,(uh HC).out hne hnp _ _,(uh HK).out (lr _) _ _,(dt.zaf (dt.zae w.heap.size B hne _ 0 _) 0).trans (uh HZ0)⟩
 | true =>
  have hm1:=hm rfl;have HH:=Hi h;have hTK:=Hi (fun W (bb:Below w.heap.size w W)=>(h.below bb).tak hm1)
  have hr:=Hi (fun W (bb:Below w.heap.size w W)=>(h.below bb).tk)
  have hc0:=Hi (fun W (bb:Below w.heap.size w W)=>(h.below bb).c01)
  have hix:=h.ok.lt;have hlen:=h.len;obtain⟨cap,d0,d1,f1,-⟩:=h.c01;obtain⟨ix,hk⟩:∃ ix,ix=c.ix:=⟨_,rfl⟩;obtain⟨n,hk2⟩:∃ n,n=c.ts.length:=⟨_,rfl⟩;obtain⟨t,hk3⟩:∃ t,t=c.tok:=⟨_,rfl⟩;rw[←hk,←hk2] at hix hm1;rw[←hk2] at d0 hlen;rw[←hk] at d1 hr hTK;rw[←hk3] at hr ⊢;clear h hk hk2 hk3 hc0;have ii:(ix:Int)<(n:Int):=by omega
  have D0:=qc hlt d0;have D1:=qc hlt d1;have D1':∀ o o',((w.alloc o).alloc o').cell? ⟨B,1,none⟩=some (.int .i64 ix):=fun o o'=>((((uh bA) o).alloc ((uh bA) o).size o').cell (p:=⟨B,1,none⟩) hlt).trans d1
  have F1':∀ o o',((w.alloc o).alloc o').frozen? ⟨B,1,none⟩=false:=fun o o'=>by
   have e:=(((uh bA) o).alloc ((uh bA) o).size o').block B hlt;rw[World.frozen?_of_block (w:=w) (a:=⟨B,1,none⟩) e];exact f1
  have E:∀ (j:Nat) (u:Value) o,t.cells[j]? = some u→(w.alloc o).cell? ⟨p,ix * 7+j,none⟩=some u:=fun j u o hu=>(uh hr) _ ((uh bA) o) j u hu
  obtain⟨e0,e1,e2,e3,e4,e5,e6⟩:=qe E;clear E d0 d1 f1 hr;unfold ptr
  go_enter func85,ntmps85
  go_wp2_with fail
  go_region
  go_wp2_with fail
  have hC1:=(uh hTK) w (Below.refl _ _);have hK1:=(Kp.refl B w).set 1 (.int .i64 ((ix:Int)+1));obtain⟨X,hX⟩:∃ X,X=w.setCell ⟨B,1,none⟩ (.int .i64 ((ix:Int)+1)):=⟨_,rfl⟩;have hXs:X.heap.size=w.heap.size:=by rw[hX];simp
  have hX0:X.cell? ⟨B,0,none⟩=w.cell? ⟨B,0,none⟩:=by rw[hX];exact cell0 (uh HH) 1 (by decide) _
  rw[←hX] at hC1 hK1 ⊢;clear hX;have bX:∀ o o',Below X.heap.size X ((X.alloc o).alloc o').drew:=fun o o'=>Go.below_drewN ((((Below.refl _ _).alloc (lr _) o)).alloc (by simp) o') 1
  have hQ:∀ o o',((X.alloc o).alloc o').drew.heap[w.heap.size]? = some o:=fun o o'=>by
   rw[←hXs];have e1:=heap_alloc_new X o;have e2:=Below.heap_alloc (X.alloc o) o' X.heap.size (by simp)
   exact e2.trans e1
  refine bodyPost_ret (rgn.zaa rfl _ _ w.heap.size 0 [.string t.tx,.int .i64 t.ln,.int .i64 t.co] _ rfl (dt.zap (hQ _ _) 0 [.string t.tx,.int .i64 t.ln,.int .i64 t.co] (fun j u hu=>by rw[Nat.zero_add];simpa using hu)) underlying84 rfl infoNm) rfl ?_
  exact⟨rfl,hC1.below (bX _ _),hK1.trans (Kp.of (bX _ _)),((bX _ _).cell (p:=⟨B,0,none⟩) (by rw[hXs];exact hlt)).trans hX0⟩
end cr
namespace cu
open ints (Hi uh)
open dt (Dt Kp RowAt Ow Grow)
theorem ziu(w:World)(cs:Array Value)(t:TypeId)(W:World)(hb:Below (w.alloc (.cells cs t)).heap.size (w.alloc (.cells cs t)) W):W.there w.heap.size 0 cs.size:=
 dt.zac ((hb.block w.heap.size (by simp)).trans (heap_alloc_new w _)) (by simp)
theorem ziy(w:World)(o o':Obj):Below w.heap.size w ((w.alloc o).alloc o'):=((Below.refl _ _).alloc (lr _) o).alloc (by simp) o'
theorem znt(w:World)(cs ds:Array Value)(t u:TypeId):((w.alloc (.cells cs t)).alloc (.cells ds u)).heap[w.heap.size]? = some (.cells cs t (0,0))∧((w.alloc (.cells cs t)).alloc (.cells ds u)).heap[w.heap.size+1]? = some (.cells ds u (0,0)):=by
 refine⟨(Below.heap_alloc _ _ w.heap.size (by simp)).trans (heap_alloc_new w _),?_⟩
 have:=heap_alloc_new (w.alloc (.cells cs t)) (.cells ds u)
 simpa using this
theorem infoNt:(prog.info? 89).map (·.size)=some 3:=by kernel_rfl
theorem zi5(v:Value)(w:World)(Q:List Value→World→Prop)(hT:∀ W,Below w.heap.size w W→w.heap.size<W.heap.size→Calls prog 19 #[v] W fun e w'=>∃ k a n c,e = .returned (.agg #[.int .i64 k,.slice a n c,.slice none 0 0])∧Q [.int .i64 k,.slice a n c,.slice none 0 0] w'∧Below W.heap.size W w')
  (hQ:∀ cs w1 w2,Q cs w1→Below w1.heap.size w1 w2→Q cs w2) (hQ2:∀ cs w1 vs,Q cs w1→Q cs (w1.setCells w.heap.size 0 vs)) :
  Calls prog 31 #[v] w fun e w'=>∃ k a n c,e = .returned (.tuple #[.agg #[.int .i64 k,.slice a n c,.slice none 0 0],.bool (k != 0)])∧Q [.int .i64 k,.slice a n c,.slice none 0 0] w'∧Below w.heap.size w w':=by
 have bA:=qA w;have HT:=Hi hT;have H1:=Hi hQ;have H2:=Hi hQ2;clear hT hQ hQ2
 go_enter func31,ntmps31
 go_wp2_with fail
 refine ((uh HT) _ ((uh bA) _) (by simp)).mono ?_
 rintro e w1 ⟨k,a,n,c,rfl,hq,b1⟩;have bw1:=((uh bA) _).trans (b1.mono ((uh bA) _).size);have hz1:w.heap.size<w1.heap.size:=by have:=b1.size;simp at this;omega
 obtain⟨Y,hY⟩:∃ Y,Y=w1.alloc (.cells #[.int .i64 k,.slice a n c,.slice none 0 0] 38):=⟨_,rfl⟩;have bY:Below w1.heap.size w1 Y:=by rw[hY];exact ba
 have hYc:Y.heap[w1.heap.size]? = some (.cells #[.int .i64 k,.slice a n c,.slice none 0 0] 38 (0,0)):=by rw[hY];exact heap_alloc_new w1 _
 have hYs:w1.heap.size<Y.heap.size:=by rw[hY];simp
 have b1Y:=b1.trans (bY.mono b1.size);have bwY:=bw1.trans (bY.mono bw1.size);have HQ:=(uh H1) _ _ Y hq bY
 go_wp2_with fail
 rw[←hY];clear hY b1 bw1 hq HT bA bY;have bD:Below Y.heap.size Y { Y with drawn:=Y.drawn+1 }:=(Below.refl _ _).drew
 have hS0:Below w.heap.size w { Y with drawn:=Y.drawn+1 }∧({ Y with drawn:=Y.drawn+1 }:World).heap[w1.heap.size]? = some (.cells #[.int .i64 k,.slice a n c,.slice none 0 0] 38 (0,0)):=⟨bwY.trans (bD.mono bwY.size),(bD.block _ hYs).trans hYc⟩
 have hth:({ Y with drawn:=Y.drawn+1 }:World).there w.heap.size 0 3:=ziu w #[.int .i64 0,.slice none 0 0,.slice none 0 0] 38 _ (b1Y.trans (bD.mono b1Y.size))
 have HQ2:=(uh H1) _ _ { Y with drawn:=Y.drawn+1 } HQ bD
 refine wp_region_noPanic ?_
 refine wp_region_held (S:=fun w'=>Below w.heap.size w w'∧w'.heap[w1.heap.size]? = some (.cells #[.int .i64 k,.slice a n c,.slice none 0 0] 38 (0,0))) mixed ?_
 refine rgn.u 0 (v:=?v0) ?h0 hS0 ?_
 case h0=>(intro w' hw';have q0:=(zG hw'.2 0).trans rfl;have q1:=(zG hw'.2 1).trans rfl;have q2:=(zG hw'.2 2).trans rfl;go_simp;try with_reducible rfl)
 simp only[zA,zB,zC,Act.put,zD,zE,zF];refine rgn.u 1 (v:=?v1) ?h1 hS0 ?_
 case h1=>(intro w' hw';go_simp;try with_reducible rfl)
 simp only[zA,zB,zC,Act.put,zD,zE,zF];refine rgn.u 2 (v:=?v2) ?h2 hS0 ?_
 case h2=>(intro w' hw';have q0:=(zG hw'.2 0).trans rfl;go_simp;try with_reducible rfl)
 simp only[zA,zB,zC,Act.put,zD,zE,zF];refine rgn.u 3 (v:=?v3) ?h3 hS0 ?_
 case h3=>(intro w' hw';go_simp;try with_reducible rfl)
 simp only[zA,zB,zC,Act.put,zD,zE,zF];refine rgn.one (i:=4) _ rfl (by kernel_rfl) (by rfl) ?_
 simp only[zA,zB,zC,Act.put,zD,zE,zF];refine wp_store_mid 38 _ _ (by rfl) w.heap.size 0 #[.int .i64 k,.slice a n c,.slice none 0 0] (by rfl) (by rfl) hth infoFl (dt.zab (cs:=[.int .i64 k,.slice a n c,.slice none 0 0]) (by rfl)) ?_
 have hS3:Below w.heap.size w (({ Y with drawn:=Y.drawn+1 }:World).setCells w.heap.size 0 [.int .i64 k,.slice a n c,.slice none 0 0])∧(({ Y with drawn:=Y.drawn+1 }:World).setCells w.heap.size 0 [.int .i64 k,.slice a n c,.slice none 0 0]).heap[w1.heap.size]? = some (.cells #[.int .i64 k,.slice a n c,.slice none 0 0] 38 (0,0)):=⟨dt.zad _ _ _ _ hS0.1 (lr _),(dt.zae w.heap.size w1.heap.size (by omega) _ 0 _).trans hS0.2⟩
 refine⟨hS3,?_⟩
 clear hS0;have hS0:=hS3
 try simp only[zA,zB,zC,Act.put,zD,zE,zF]
 refine rgn.take (i:=5) _ (.bool (k != 0)) rfl (by kernel_rfl) (by kernel_rfl) (by kernel_rfl) (fun _ _ _ h=>h) (by rfl) hS0 (fun w' hw'=>by go_simp) ?_
 simp only[zA,zB,zC,Act.put,zD,zE,zF];refine wpAnyH_done (by kernel_rfl) ?_ _;refine NoPanic.normal ?_
 go_wp2_with fail
 refine bodyPost_ret (rgn.zaa rfl _ _ w.heap.size 0 [.int .i64 k,.slice a n c,.slice none 0 0] _ rfl (World.rangeAt_setCells_same _ _ _ _ hth) underlying38 rfl infoFl) rfl ?_
 exact⟨k,a,n,c,rfl,(uh H2) _ _ _ HQ2,hS3.1⟩
theorem ziq(w:World):Calls prog 24 #[.slice none 0 0,.slice none 0 0] w fun e w'=>e = .returned (.bool true)∧w'=w:=by
 go_enter func24,ntmps24
 go_wp2_with fail
 refine wp_loop_rounds 1 ?_
 rw[rounds_succ]
 go_wp2_with fail
 go_ret
 exact⟨rfl,rfl⟩
theorem zlD(w:World):Calls prog 23 #[.slice none 0 0,.slice none 0 0] w fun e w'=>e = .returned (.int .i64 0)∧w'=w:=by
 go_enter func23,ntmps23
 go_wp2_with fail
 refine wp_loop_rounds 1 ?_
 rw[rounds_succ]
 go_wp2_with fail
 go_ret
 exact⟨rfl,rfl⟩
end cu
end Go.Proofs.YtepmbmbnlmbhhaaGreat
