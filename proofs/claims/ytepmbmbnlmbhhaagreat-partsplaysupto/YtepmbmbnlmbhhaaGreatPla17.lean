import Derived.Test.YtepmbmbnlmbhhaaGreatPla16
set_option linter.unusedVariables false
set_option linter.unusedSimpArgs false
set_option maxHeartbeats 16000000
set_option maxRecDepth 8000
open Go.Proofs.Tryz
namespace Go.Proofs.YtepmbmbnlmbhhaaGreat
open Go.ChangeShapes Go.WideShapes Go.ChangeAt Go.RowKit
namespace sv
open mem
open ints (Hi uh)
theorem zkR(L:List (List Int))(C k:Nat)(h:k<L.length):(cutL C L).take (k+1)=(cutL C L).take k++[if k=0 then L.getD k [] else (L.getD k []).drop C]:=by
 cases L with
 | nil=>simp at h
 | cons x L =>
  rw[List.take_add_one]
  congr 1
  cases k with
  | zero=>simp[cutL,List.getD]
  | succ k =>
   have:k<L.length:=by simp at h;omega
   simp[cutL,List.getD,this]
theorem ziQ(L:List (List Int))(C:Nat):(cutL C L).length=L.length:=by cases L <;> simp[cutL]
theorem LnR.sub{w:World}{b n c:Nat}{D:List (List Int)}(h:LnR w b 0 n c D)(f t:Nat)(hft:f≤t)(ht:t≤n):LnR w b f (t-f) (c-f) ((D.drop f).take (t-f)):=by
 have hl:=h.len;have hle:=h.le;refine⟨by simp;omega,by omega,h.lt,fun i hi=>?_⟩
 obtain⟨ai,ci,h1,h2⟩:=h.at_ (f+i) (by omega)
 have e:((D.drop f).take (t-f)).getD i []=D.getD (f+i) []:=by simp[List.getD,show i<t-f by omega]
 rw[e];rw[Nat.zero_add] at h1;exact⟨ai,ci,h1,h2⟩
theorem LnR.sub0{w:World}{b n c:Nat}{D:List (List Int)}(h:LnR w b 0 n c D)(f t:Nat)(hft:f≤t)(ht:t≤n)(hc:f=c):LnR w b 0 (t-f) 0 ((D.drop f).take (t-f)):=by
 have hl:=h.len;have hle:=h.le;refine⟨by simp;omega,by omega,h.lt,fun i hi=>by omega⟩
theorem zgC(b off n c:Nat)(L:List (List Int))(w:World)(h:LnR w b off n c L)(hn:n≤1099511627778)(h0:0<n)(hm:∀ i,(L.getD i []).length≤1099511627776) :
  Calls prog 168 #[.slice (some ⟨b,off,none⟩) n c] w fun e w'=>∃ b' off' c' m,e = .returned (.slice (some ⟨b',off',none⟩) m c')∧LnR w' b' off' m c' (ddt L)∧Below w.heap.size w w':=by
 obtain⟨i0,hi,hz0,hz1,hz2⟩:=info_parts info32;have HL:=Hi h.len;have HM:=Hi hm;have HC:=Hi (zgB b off n c L w h hn h0 hm);have HA:=Hi h.at_;have hbw:=h.lt;have hddt:=Hi (show ddt L=trm (cutL (cmn L) L) from rfl)
 have hcm:=Hi (fun k hk=>zkR L (cmn L) k hk)
 have hcl:=Hi (ziQ L (cmn L));obtain⟨C,hC⟩:∃ C,C=cmn L:=⟨_,rfl⟩;rw[←hC] at HC hddt hcm hcl
 have hC1:C≤1099511627776:=by
  rw[hC];unfold cmn
  cases e:lst (L.drop 1) with
  | none=>simp
  | some m =>
   obtain⟨⟨x,hx,_,hx2⟩,_⟩:=zd5 e;simp only[Option.getD_some];rw[←hx2];refine Nat.le_trans (zdy x) ?_
   obtain⟨i,hi,rfl⟩:=List.mem_iff_getElem.1 (List.mem_of_mem_drop hx);have:=hm i
   simpa[List.getD,hi] using this
 clear hC h hm
 go_enter func168,ntmps168
 go_wp2_with fail
 refine (uh HC).mono ?_
 rintro e w1 ⟨rfl,rfl⟩;clear HC
 go_wp2_with fail
 go_loopw [4,5] (fun v iv wr=>∃ (k:Nat) (D:List (List Int)) (vs:List Value),k≤n∧iv = .int .i64 k∧D.length≤k∧Hid (D=(cutL C L).take k)∧Hid (LnO wr w1.heap.size v vs D)∧Below w1.heap.size w1 wr) (fun _ i _=>n-(intOf i).toNat)
 case atStart=>exact⟨0,[],[],Nat.zero_le _,rfl,lr _,Hi (by simp),Hi (LnO.nil _ _),Below.refl _ _⟩
 case round =>
  obtain⟨k,D,vs,hk,rfl,hDk,hD,hO,hbel⟩:=hrel;have hsz:=hbel.size
  by_cases hlt:k<n
  ·obtain⟨ai,ci,h1,h2⟩:=uh HA k hlt
   have c0:=(hbel.cell (p:=⟨b,off+k,none⟩) hbw).trans h1;have H2:=Hi (h2.below hbel);have hq0:=uh HM k;have hsn:=Hi (uh hcm k (by rw[uh HL];exact hlt))
   rw[←uh hD] at hsn;have ki:(k:Int)<(n:Int):=by omega
   obtain⟨x,hx⟩:∃ x,x=L.getD k []:=⟨_,rfl⟩;rw[←hx] at c0 H2 hq0 hsn;obtain⟨q,hq⟩:∃ q,q=x.length:=⟨_,rfl⟩;have HQ:=Hi hq;rw[←hq] at c0 H2 hq0;clear hx hq h1 h2 hD;obtain⟨aB,cB,rfl⟩:=lx.zaz (uh hO).own
   by_cases hk0:k=0
   ·have hsn2:=Hi (show D++[x]=(cutL C L).take (k+1) from by rw[uh hsn,if_pos hk0])
    subst hk0;rw[Nat.add_zero] at c0;clear hsn
    go_wp2_with (first
     | (at_builtin;refine lx.zaG _ rfl _ _ 109 rfl wr.heap.size 21 i0 .i32 4 underlying109 hi hz0 hz1 hz2 _ _ _ rfl (World.ownsRow_nil _ _ _ _) _ _ _ x rfl (uh H2) (by unfold maxLen;omega) (by omega) (lr _) ?_;intro v2 w2 hown2 hb2;obtain⟨a2,c2,rfl⟩:=lx.zaz hown2)
     | (at_builtin;refine zbo _ rfl _ _ rfl w1.heap.size (.slice aB D.length cB) (.slice a2 q c2) vs D x rfl ((uh hO).below hb2) (by have:=zaS hown2 hsz;rw[←uh HQ];simpa using this) rfl (by omega) (by have:=hb2.size;omega) ?_;intro v' vs' w3 hO3 hb3))
    refine⟨⟨0+1,D++[x],vs',by omega,by go_num,by rw[List.length_append];simp only[List.length_cons,List.length_nil];omega,hsn2,Hi hO3,(hbel.trans (hb2.mono hsz)).trans hb3⟩,by simp only[intOf];omega⟩
   ·have k0:(0:Int)<(k:Int):=by omega
    have hsn2:=Hi (show D++[x.drop C]=(cutL C L).take (k+1) from by rw[uh hsn,if_neg hk0])
    clear hsn hk0
    by_cases hqc:q≤C
    ·have qi:(q:Int)≤(C:Int):=by omega
     have hsn3:=Hi (show D++[[]]=(cutL C L).take (k+1) from by rw[←uh hsn2,List.drop_eq_nil_of_le (by rw[←uh HQ];exact hqc)])
     clear hsn2
     go_wp2_with (first
      | (at_builtin;refine lx.zaG _ rfl _ _ 109 rfl wr.heap.size 21 i0 .i32 4 underlying109 hi hz0 hz1 hz2 _ _ _ rfl (World.ownsRow_nil _ _ _ _) none 0 0 [] rfl ⟨rfl,lr _,fun _=>rfl,.inl rfl⟩ (by unfold maxLen;omega) (by omega) (lr _) ?_;intro v2 w2 hown2 hb2;obtain⟨a2,c2,rfl⟩:=lx.zaz hown2)
      | (at_builtin;refine zbo _ rfl _ _ rfl w1.heap.size (.slice aB D.length cB) (.slice a2 0 c2) vs D [] rfl ((uh hO).below hb2) (by have:=zaS hown2 hsz;simpa using this) rfl (by omega) (by have:=hb2.size;omega) ?_;intro v' vs' w3 hO3 hb3))
     refine⟨⟨k+1,D++[[]],vs',by omega,by go_num,by simp;omega,hsn3,Hi hO3,(hbel.trans (hb2.mono hsz)).trans hb3⟩,by simp only[intOf];omega⟩
    ·have qi:¬(q:Int)≤(C:Int):=by omega
     obtain⟨bi,oi,rfl⟩:∃ bi oi,ai=some ⟨bi,oi,none⟩:=by
      rcases (uh H2).at_ with e | ⟨bi,oi,e,_⟩
      ·omega
      ·exact⟨bi,oi,e⟩
     have hle:=(uh H2).le;have hci:¬ci=C:=by omega
     have k2:(C:Int)≤(q:Int):=by omega
     have k3:(C:Int)≤(ci:Int):=by omega
     have k4:(q:Int)≤(ci:Int):=by omega
     have H3:=Hi (lx.zcX (uh H2) C (by omega))
     have HQ3:=Hi (show (x.drop C).length=q-C from by rw[List.length_drop,←uh HQ])
     obtain⟨y,hy⟩:∃ y,y=x.drop C:=⟨_,rfl⟩;rw[←hy] at H3 hsn2 HQ3;clear hy
     go_wp2_with (first
      | (at_builtin;refine lx.zaG _ rfl _ _ 109 rfl wr.heap.size 21 i0 .i32 4 underlying109 hi hz0 hz1 hz2 _ _ _ rfl (World.ownsRow_nil _ _ _ _) _ _ _ y rfl (uh H3) (by unfold maxLen;omega) (by omega) (lr _) ?_;intro v2 w2 hown2 hb2;obtain⟨a2,c2,rfl⟩:=lx.zaz hown2)
      | (at_builtin;refine zbo _ rfl _ _ rfl w1.heap.size (.slice aB D.length cB) (.slice a2 (q-C) c2) vs D y rfl ((uh hO).below hb2) (by have:=zaS hown2 hsz;rw[uh HQ3];simpa using this) rfl (by omega) (by have:=hb2.size;omega) ?_;intro v' vs' w3 hO3 hb3))
     refine⟨⟨k+1,D++[y],vs',by omega,by go_num,by simp;omega,hsn2,Hi hO3,(hbel.trans (hb2.mono hsz)).trans hb3⟩,by simp only[intOf];omega⟩
  ·obtain rfl:k=n:=by omega
   have ki:¬(k:Int)<(k:Int):=by omega
   have hDL:=Hi (show D=cutL C L from by rw[uh hD,List.take_of_length_le (by rw[uh hcl,uh HL];exact lr _)])
   have hDl:=Hi (show D.length=k from by rw[uh hDL,uh hcl,uh HL])
   obtain⟨g,cap,e,hR⟩:=(uh hO).read (by rw[uh hDl];exact h0)
   rw[uh hDl] at e hR;subst e
   have hDm:=Hi (show ∀ i,(D.getD i []).length≤1099511627776 from fun i=>by
    rw[uh hDL]
    by_cases hi:i<L.length
    ·have e:=hcm
     cases L with
     | nil=>simp at hi
     | cons x L =>
      cases i with
      | zero=>simpa[cutL,List.getD] using uh HM 0
      | succ i =>
       have hi2:i<L.length:=by simp at hi;omega
       have:=uh HM (i+1);simp[List.getD,hi2] at this;simp[cutL,List.getD,hi2];omega
    ·rw[List.getD,List.getElem?_eq_none (by rw[uh hcl];omega)]
     simp)
   have hRle:=hR.le;have HR:=Hi hR;have hgl:=hR.lt;clear hD hO hR hDk
   go_wp2_with fail
   go_loopw [8] (fun fv wx=>∃ f:Nat,f≤k∧fv = .int .i64 f∧Hid (∀ j,j<f→blk (D.getD j [])=true)∧wx=wr) (fun i _=>k-(intOf i).toNat)
   case atStart=>exact⟨0,Nat.zero_le _,rfl,Hi (fun j hj=>by omega),rfl⟩
   case round =>
    obtain⟨f,hf,rfl,hall,rfl⟩:=hrel
    by_cases hfk:f<k
    ·obtain⟨ai,ci,h1,h2⟩:=(uh HR).at_ f hfk
     rw[Nat.zero_add] at h1;have fi:(f:Int)<(k:Int):=by omega
     have hq0:=uh hDm f;have B:=Hi (zdl ai _ ci (D.getD f []) _ h2 (by omega))
     obtain⟨x,hx⟩:∃ x,x=D.getD f []:=⟨_,rfl⟩;rw[←hx] at h1 B;have HX:=Hi hx;obtain⟨q,hq⟩:∃ q,q=x.length:=⟨_,rfl⟩;rw[←hq] at h1 B;clear hx hq h2 hq0
     cases hb:blk x with
     | true =>
      have hall2:=Hi (show ∀ j,j<f+1→blk (D.getD j [])=true from fun j hj=>by
       by_cases e:j<f
       ·exact uh hall j e
       ·obtain rfl:j=f:=by omega
        rw[←uh HX];exact hb)
      rw[hb] at B;clear hb
      go_wp2_with fail
      refine (uh B).mono ?_
      rintro e w2 ⟨rfl,rfl⟩
      go_wp2_with fail
      exact⟨⟨f+1,by omega,by go_num,hall2,(by trivial)⟩,by simp only[intOf];omega⟩
     | false =>
      have hst:=Hi (show f=D.length∨blk (D.getD f [])=false from .inr (by rw[←uh HX];exact hb))
      rw[hb] at B;clear hb
      go_wp2_with fail
      refine (uh B).mono ?_
      rintro e w2 ⟨rfl,rfl⟩;obtain⟨WW,hWW⟩:∃ W,W=w2:=⟨_,rfl⟩;subst hWW;clear h1
      go_wp2_with fail
      go_loopw [9] (fun tv wx=>∃ T:Nat,f≤T∧T≤k∧tv = .int .i64 T∧Hid (∀ j,T≤j→j<k→blk (D.getD j [])=true)∧wx=WW) (fun i _=>(intOf i).toNat)
      case atStart=>exact⟨k,hf,lr _,rfl,Hi (fun j h1 h2=>by omega),rfl⟩
      case round =>
       obtain⟨T,hft,htk,rfl,hall3,rfl⟩:=hrel
       by_cases hgt:f<T
       ·have ti:(f:Int)<(T:Int):=by omega
        obtain⟨S,hS⟩:∃ S,S=T-1:=⟨_,rfl⟩;have Hs:=Hi (show T=S+1 from by omega)
        obtain⟨ai,ci,h1,h2⟩:=(uh HR).at_ S (by omega)
        rw[Nat.zero_add] at h1;have hq0:=uh hDm S;have B:=Hi (zdl ai _ ci (D.getD S []) _ h2 (by omega))
        obtain⟨x,hx⟩:∃ x,x=D.getD S []:=⟨_,rfl⟩;rw[←hx] at h1 B;have HX:=Hi hx;obtain⟨q,hq⟩:∃ q,q=x.length:=⟨_,rfl⟩;rw[←hq] at h1 B;clear hx hq h2 hq0 hS;have si:(0:Int)≤(T:Int)-1:=by omega
        have sk:(T:Int)-1<(k:Int):=by omega
        have sn:((T:Int)-1).toNat=S:=by have:=uh Hs;omega
        cases hb:blk x with
        | true =>
         have hall4:=Hi (show ∀ j,S≤j→j<k→blk (D.getD j [])=true from fun j hj hj2=>by
          by_cases e:T≤j
          ·exact uh hall3 j e hj2
          ·obtain rfl:j=S:=by have:=uh Hs;omega
           rw[←uh HX];exact hb)
         rw[hb] at B;clear hb
         go_wp2_with fail
         refine (uh B).mono ?_
         rintro e w2 ⟨rfl,rfl⟩
         go_wp2_with fail
         exact⟨⟨S,by have:=uh Hs;omega,by have:=uh Hs;omega,by rw[uh Hs];go_num,hall4,(by trivial)⟩,by have:=uh Hs;simp only[intOf];omega⟩
        | false =>
         have hb4:=Hi (show blk (D.getD (T-1) [])=false from by rw[show T-1=S from by have:=uh Hs;omega,←uh HX];exact hb)
         rw[hb] at B;clear hb
         go_wp2_with fail
         refine (uh B).mono ?_
         rintro e w2 ⟨rfl,rfl⟩
         have HT:=Hi (show ddt L=(D.drop f).take (T-f) from by
          rw[uh hddt,←uh hDL]
          exact zcJ D f T hft (by rw[uh hDl];exact htk) (uh hall) (fun h=>by rcases uh hst with e | e;rw[uh hDl] at e;omega;exact e) (fun j h1 h2=>uh hall3 j h1 (by rw[uh hDl] at h2;exact h2)) (fun _=>uh hb4))
         have k1:(f:Int)≤(T:Int):=by omega
         have k2:(T:Int)≤(cap:Int):=by omega
         by_cases hFc:f=cap
         ·have hS:=Hi ((uh HR).sub0 f T hft htk hFc)
          have hFi:(f:Int)=(cap:Int):=by omega
          subst hFc
          go_wp2_with fail
          go_ret
          exact⟨g,0,0,T-f,by first | rfl | simp,by rw[uh HT];exact uh hS,hbel⟩
         ·have hS:=Hi ((uh HR).sub f T hft htk)
          have hFi:¬(f:Int)=(cap:Int):=by omega
          have hFj:¬cap=f:=by omega
          go_wp2_with fail
          go_ret
          exact⟨g,f,cap-f,T-f,by first | rfl | simp | simp[hFc,hFj],by rw[uh HT];exact uh hS,hbel⟩
       ·obtain rfl:T=f:=by omega
        have ti:¬(T:Int)<(T:Int):=by omega
        have HT:=Hi (show ddt L=(D.drop T).take (T-T) from by
         rw[uh hddt,←uh hDL]
         exact zcJ D T T hft (by rw[uh hDl];exact htk) (uh hall) (fun h=>by rcases uh hst with e | e;rw[uh hDl] at e;omega;exact e) (fun j h1 h2=>uh hall3 j h1 (by rw[uh hDl] at h2;exact h2)) (fun h=>by omega))
        have k1:(T:Int)≤(T:Int):=by omega
        have k2:(T:Int)≤(cap:Int):=by omega
        by_cases hFc:T=cap
        ·have hS:=Hi ((uh HR).sub0 T T hft htk hFc)
         have hFi:(T:Int)=(cap:Int):=by omega
         subst hFc
         go_wp2_with fail
         go_ret
         exact⟨g,0,0,T-T,by first | rfl | simp,by rw[uh HT];exact uh hS,hbel⟩
        ·have hS:=Hi ((uh HR).sub T T hft htk)
         have hFi:¬(T:Int)=(cap:Int):=by omega
         have hFj:¬cap=T:=by omega
         go_wp2_with fail
         go_ret
         exact⟨g,T,cap-T,T-T,by first | rfl | simp | simp[hFc,hFj],by rw[uh HT];exact uh hS,hbel⟩
    ·have hst:=Hi (show f=D.length∨blk (D.getD f [])=false from .inl (by rw[uh hDl];omega))
     have fi:¬(f:Int)<(k:Int):=by omega
     obtain⟨WW,hWW⟩:∃ W,W=wr:=⟨_,rfl⟩;subst hWW
     go_wp2_with fail
     go_loopw [9] (fun tv wx=>∃ T:Nat,f≤T∧T≤k∧tv = .int .i64 T∧Hid (∀ j,T≤j→j<k→blk (D.getD j [])=true)∧wx=WW) (fun i _=>(intOf i).toNat)
     case atStart=>exact⟨k,hf,lr _,rfl,Hi (fun j h1 h2=>by omega),rfl⟩
     case round =>
      obtain⟨T,hft,htk,rfl,hall3,rfl⟩:=hrel
      by_cases hgt:f<T
      ·have ti:(f:Int)<(T:Int):=by omega
       obtain⟨S,hS⟩:∃ S,S=T-1:=⟨_,rfl⟩;have Hs:=Hi (show T=S+1 from by omega)
       obtain⟨ai,ci,h1,h2⟩:=(uh HR).at_ S (by omega)
       rw[Nat.zero_add] at h1;have hq0:=uh hDm S;have B:=Hi (zdl ai _ ci (D.getD S []) _ h2 (by omega))
       obtain⟨x,hx⟩:∃ x,x=D.getD S []:=⟨_,rfl⟩;rw[←hx] at h1 B;have HX:=Hi hx;obtain⟨q,hq⟩:∃ q,q=x.length:=⟨_,rfl⟩;rw[←hq] at h1 B;clear hx hq h2 hq0 hS;have si:(0:Int)≤(T:Int)-1:=by omega
       have sk:(T:Int)-1<(k:Int):=by omega
       have sn:((T:Int)-1).toNat=S:=by have:=uh Hs;omega
       cases hb:blk x with
       | true =>
        have hall4:=Hi (show ∀ j,S≤j→j<k→blk (D.getD j [])=true from fun j hj hj2=>by
         by_cases e:T≤j
         ·exact uh hall3 j e hj2
         ·obtain rfl:j=S:=by have:=uh Hs;omega
          rw[←uh HX];exact hb)
        rw[hb] at B;clear hb
        go_wp2_with fail
        refine (uh B).mono ?_
        rintro e w2 ⟨rfl,rfl⟩
        go_wp2_with fail
        exact⟨⟨S,by have:=uh Hs;omega,by have:=uh Hs;omega,by rw[uh Hs];go_num,hall4,(by trivial)⟩,by have:=uh Hs;simp only[intOf];omega⟩
       | false =>
        have hb4:=Hi (show blk (D.getD (T-1) [])=false from by rw[show T-1=S from by have:=uh Hs;omega,←uh HX];exact hb)
        rw[hb] at B;clear hb
        go_wp2_with fail
        refine (uh B).mono ?_
        rintro e w2 ⟨rfl,rfl⟩
        have HT:=Hi (show ddt L=(D.drop f).take (T-f) from by
         rw[uh hddt,←uh hDL]
         exact zcJ D f T hft (by rw[uh hDl];exact htk) (uh hall) (fun h=>by rcases uh hst with e | e;rw[uh hDl] at e;omega;exact e) (fun j h1 h2=>uh hall3 j h1 (by rw[uh hDl] at h2;exact h2)) (fun _=>uh hb4))
        have k1:(f:Int)≤(T:Int):=by omega
        have k2:(T:Int)≤(cap:Int):=by omega
        by_cases hFc:f=cap
        ·have hS:=Hi ((uh HR).sub0 f T hft htk hFc)
         have hFi:(f:Int)=(cap:Int):=by omega
         subst hFc
         go_wp2_with fail
         go_ret
         exact⟨g,0,0,T-f,by first | rfl | simp,by rw[uh HT];exact uh hS,hbel⟩
        ·have hS:=Hi ((uh HR).sub f T hft htk)
         have hFi:¬(f:Int)=(cap:Int):=by omega
         have hFj:¬cap=f:=by omega
         go_wp2_with fail
         go_ret
         exact⟨g,f,cap-f,T-f,by first | rfl | simp | simp[hFc,hFj],by rw[uh HT];exact uh hS,hbel⟩
      ·obtain rfl:T=f:=by omega
       have ti:¬(T:Int)<(T:Int):=by omega
       have HT:=Hi (show ddt L=(D.drop T).take (T-T) from by
        rw[uh hddt,←uh hDL]
        exact zcJ D T T hft (by rw[uh hDl];exact htk) (uh hall) (fun h=>by rcases uh hst with e | e;rw[uh hDl] at e;omega;exact e) (fun j h1 h2=>uh hall3 j h1 (by rw[uh hDl] at h2;exact h2)) (fun h=>by omega))
       have k1:(T:Int)≤(T:Int):=by omega
       have k2:(T:Int)≤(cap:Int):=by omega
       by_cases hFc:T=cap
       ·have hS:=Hi ((uh HR).sub0 T T hft htk hFc)
        have hFi:(T:Int)=(cap:Int):=by omega
        subst hFc
        go_wp2_with fail
        go_ret
        exact⟨g,0,0,T-T,by first | rfl | simp,by rw[uh HT];exact uh hS,hbel⟩
       ·have hS:=Hi ((uh HR).sub T T hft htk)
        have hFi:¬(T:Int)=(cap:Int):=by omega
        have hFj:¬cap=T:=by omega
        go_wp2_with fail
        go_ret
        exact⟨g,T,cap-T,T-T,by first | rfl | simp | simp[hFc,hFj],by rw[uh HT];exact uh hS,hbel⟩
theorem zl9(l:List Int)(h:std l 0 0=true):bS l=encS (jn (dd (lns (opn l))))∧bE l=0:=by
 have e:lx.blk l=some (opn l,true):=by
  unfold lx.blk;exact zef l.length l 0 0 false (lr _) (by omega) (by decide) h
 unfold bS bE;rw[e];exact⟨rfl,rfl⟩
theorem zew(L:List (List Int))(k:Nat)(h:k<L.length):(L.map opn).take (k+1)=(L.map opn).take k++[opn (L.getD k [])]:=by
 rw[List.take_add_one];simp[List.getD,h]
theorem zh9(a:Option Addr)(n c:Nat)(l:List Int)(w:World)(h:Row .i32 w a n c l)(hn:n≤1099511627776)(hs:std l 0 0=true) :
  Calls prog 147 #[.slice a n c] w fun e w'=>e = .returned (.tuple #[.string (bS l),.int .i64 0])∧Below w.heap.size w w':=by
 obtain⟨i0,hi,hz0,hz1,hz2⟩:=info_parts info32;have hlen:=h.len;rw[(zl9 l hs).1];have HST:=Hi (zfn a n c l w h hn);rw[hs] at HST;have z1:=zgd l;have z2:=zeC (lns l);have z3:0<(lns l).length:=List.length_pos_iff.2 (zfT l);have HZ:=Hi (show ∀ i,((lns l).getD i []).length≤1099511627776 from fun i=>by have:=zfM (lns l) i;omega)
 have y0:=zff l.length l (lr _);have y1:=zgd (opn l);have y2:=znm (lns (opn l));have y3:=zlb (dd (lns (opn l)));have y4:=zeC (dd (lns (opn l)));have HZ2:=Hi (show ∀ i,((lns (opn l)).getD i []).length≤1099511627776 from fun i=>by have:=zfM (lns (opn l)) i;omega)
 have HOP:=Hi (zcz l.length l (lr _));have HLN:=Hi (fun W (hb:Below w.heap.size w W)=>zgK a n c l W (h.below hb) hn)
 rw[zeD] at HLN;obtain⟨L,hL⟩:∃ L,L=lns l:=⟨_,rfl⟩;rw[←hL] at z1 z2 z3 HZ HOP HLN;have hLn:L.length≤1099511627777:=by omega
 have hDn:(dd (lns (opn l))).length≤1099511627777:=by omega
 have hJn:(jn (dd (lns (opn l)))).length≤1099511627776:=by omega
 have hDD:=Hi (show ddt (L.map opn)=dd (lns (opn l)) from by rw[zmo,uh HOP])
 rw[uh HOP] at HZ2;obtain⟨D,hD⟩:∃ D,D=dd (lns (opn l)):=⟨_,rfl⟩;rw[←hD] at hDD hDn hJn ⊢;clear hL hD z1 z2 y0 y1 y2 y3 y4 hlen HOP hs
 go_enter func147,ntmps147
 go_wp2_with fail
 refine (uh HST).mono ?_
 rintro e w1 ⟨rfl,b1⟩;clear HST
 go_wp2_with fail
 refine (uh HLN _ b1).mono ?_
 rintro e w2 ⟨v2,gs,rfl,hat,b2⟩;obtain⟨b,c2,rfl,hln0⟩:=zkk hat z3;have b12:=b1.trans (b2.mono b1.size);have HLR:=Hi (LnR.of hln0);have hbw:=hln0.lt;clear hat hln0 HLN;obtain⟨N,hN⟩:∃ N,N=L.length:=⟨_,rfl⟩;have HNL:=Hi hN;rw[←hN] at hLn z3 HLR ⊢;clear hN
 go_wp2_with fail
 go_loopw [6,7] (fun v iv wr=>∃ (k:Nat) (M:List (List Int)) (vs:List Value),k≤N∧iv = .int .i64 k∧M.length≤k∧Hid (M=(L.map opn).take k)∧Hid (LnO wr w2.heap.size v vs M)∧Below w2.heap.size w2 wr) (fun _ i _=>N-(intOf i).toNat)
 case atStart=>exact⟨0,[],[],Nat.zero_le _,rfl,lr _,Hi (by simp),Hi (LnO.nil _ _),Below.refl _ _⟩
 case round =>
  obtain⟨k,M,vs,hk,rfl,hMk,hM,hO,hbel⟩:=hrel;have hsz:=hbel.size;obtain⟨aB,cB,rfl⟩:=lx.zaz (uh hO).own
  by_cases hlt:k<N
  ·obtain⟨ai,ci,h1,h2⟩:=(uh HLR).at_ k hlt
   have c0:=(hbel.cell (p:=⟨b,0+k,none⟩) hbw).trans h1;rw[Nat.zero_add] at c0;have hq0:=uh HZ k;have HOE:=Hi (zhV ai _ ci (L.getD k []) _ (h2.below hbel) (by omega))
   have hsn:=Hi (zew L k (by rw[←uh HNL];exact hlt))
   rw[←uh hM] at hsn;have ki:(k:Int)<(N:Int):=by omega
   obtain⟨x,hx⟩:∃ x,x=L.getD k []:=⟨_,rfl⟩;rw[←hx] at c0 HOE hsn;obtain⟨q,hq⟩:∃ q,q=x.length:=⟨_,rfl⟩;rw[←hq] at c0 HOE;clear hx hq h1 h2 hq0 hM;obtain⟨y,hy⟩:∃ y,y=opn x:=⟨_,rfl⟩;rw[←hy] at HOE hsn;clear hy
   go_wp2_with fail
   refine (uh HOE).mono ?_
   rintro e w3 ⟨v3,rfl,hown3,b3⟩;obtain⟨a3,c3,rfl⟩:=lx.zaz hown3;have HO3:=Hi hown3;clear HOE hown3
   go_wp2_with (at_builtin;refine zbo _ rfl _ _ rfl w2.heap.size (.slice aB M.length cB) (.slice a3 y.length c3) vs M y rfl ((uh hO).below b3) (zaS (uh HO3) hsz) rfl (by omega) (by have:=b3.size;omega) ?_;intro v' vs' w4 hO4 hb4)
   refine⟨⟨k+1,M++[y],vs',by omega,by go_num,by rw[List.length_append];simp only[List.length_cons,List.length_nil];omega,Hi (uh hsn).symm,Hi hO4,(hbel.trans (b3.mono hsz)).trans hb4⟩,by simp only[intOf];omega⟩
  ·obtain rfl:k=N:=by omega
   have ki:¬(k:Int)<(k:Int):=by omega
   have hML:=Hi (show M=L.map opn from by rw[uh hM,List.take_of_length_le (by rw[List.length_map,←uh HNL];exact lr _)])
   have hMl:=Hi (show M.length=k from by rw[uh hML,List.length_map,←uh HNL])
   obtain⟨g,cap,e,hR⟩:=(uh hO).read (by rw[uh hMl];exact z3)
   rw[uh hMl] at e hR;simp only[Value.slice.injEq] at e;obtain⟨e1,-,e2⟩:=e;subst e1 e2;have HDE:=Hi (zgC g 0 k cB M _ hR (by omega) z3 (by rw[uh hML];exact uh HZ2))
   rw[uh hML,uh hDD] at HDE;rw[uh hMl];have b2r:=b12.trans (hbel.mono b12.size);clear hM hO hR hMk
   go_wp2_with fail
   refine (uh HDE).mono ?_
   rintro e w3 ⟨b',off',c',m,rfl,hR3,b3⟩;have b23:=b2r.trans (b3.mono b2r.size);have hRl:=hR3.len;have HRL:=Hi hRl;have HR3:=Hi hR3;have hbw3:=hR3.lt;have hmn:m≤1099511627777:=by omega
   clear HDE hR3 hRl
   go_wp2_with fail
   go_loopw [10,11] (fun v iv wr=>∃ j:Nat,j≤m∧iv = .int .i64 j∧wr.ownsRow w3.heap.size 21 1 v (jn (D.take j)).length ((jn (D.take j)).map (Value.int .i32))∧Below w3.heap.size w3 wr) (fun _ i _=>m-(intOf i).toNat)
   case atStart=>exact⟨0,Nat.zero_le _,rfl,World.ownsRow_nil _ _ _ _,Below.refl _ _⟩
   case round =>
    obtain⟨j,hj,rfl,hown,hb⟩:=hrel
    by_cases hlt:j<m
    ·obtain⟨ai,ci,h1,h2⟩:=(uh HR3).at_ j hlt
     have hcl:=(hb.cell (p:=⟨b',off'+j,none⟩) hbw3).trans h1;have hkl:j<D.length:=by rw[uh HRL];exact hlt
     have hsn:=Hi (show jn (D.take (j+1))=if j=0 then D.getD j [] else jn (D.take j)++([10]++D.getD j []) from by
      rw[zcI D j hkl,zhr,List.length_take,Nat.min_eq_left (Nat.le_of_lt hkl)])
     have hlen:=zdc D (j+1);have H2:=Hi h2;have i1:(j:Int)<(m:Int):=by omega
     have hbs:=hb.size;obtain⟨x,hx⟩:∃ x,x=D.getD j []:=⟨_,rfl⟩;rw[←hx] at h1 hcl hsn H2;obtain⟨M2,hM2⟩:∃ M,M=jn (D.take j):=⟨_,rfl⟩;rw[←hM2] at hsn hown;have hM0:=Hi (show j=0→M2=[] from fun e=>by rw[hM2,e];rfl)
     clear hx h1 h2 hM2 hkl;obtain⟨aB,cB,rfl⟩:=lx.zaz hown
     by_cases h0:j=0
     ·have hsn2:=Hi (show jn (D.take (j+1))=M2++x from by rw[uh hsn,if_pos h0,uh hM0 h0];rfl)
      rw[uh hsn2,List.length_append] at hlen;clear hsn hM0;subst h0;rw[Nat.add_zero] at hcl
      go_wp2_with (at_builtin;refine lx.zaG _ rfl _ _ 109 rfl w3.heap.size 21 i0 .i32 4 underlying109 hi hz0 hz1 hz2 _ _ _ rfl hown _ _ _ x rfl ((uh H2).below hb) (by unfold maxLen;omega) (by omega) (by omega) ?_;intro v' wC hown' hbC)
      refine⟨⟨0+1,by omega,by go_num,?_,hb.trans hbC⟩,by simp only[intOf];omega⟩
      rw[uh hsn2,List.length_append,List.map_append];exact hown'
     ·have hsn2:=Hi (show jn (D.take (j+1))=(M2++[10])++x from by rw[uh hsn,if_neg h0];simp)
      rw[uh hsn2,List.length_append,List.length_append] at hlen;simp only[List.length_cons,List.length_nil] at hlen;have k0:(0:Int)<(j:Int):=by omega
      clear hsn hM0
      go_wp2_with (first
       | (at_builtin;refine lx.zau _ rfl _ _ 109 rfl w3.heap.size 21 i0 .i32 4 underlying109 hi hz0 hz1 hz2 _ _ _ rfl hown _ rfl (by unfold maxLen;omega) (by omega) (by omega) ?_;intro v' wC hown' hbC;obtain⟨aC,cC,rfl⟩:=lx.zaz hown';have hbs2:=(hb.trans hbC).size;have hcl2:=(hbC.cell (p:=⟨b',off'+j,none⟩) hbw3).trans hcl)
       | (at_builtin;refine lx.zaG _ rfl _ _ 109 rfl w3.heap.size 21 i0 .i32 4 underlying109 hi hz0 hz1 hz2 _ _ _ rfl hown' _ _ _ x rfl ((uh H2).below (hb.trans hbC)) (by unfold maxLen;omega) (by omega) (by omega) ?_;intro v2 wD hown2 hbD))
      refine⟨⟨j+1,by omega,by go_num,?_,(hb.trans hbC).trans hbD⟩,by simp only[intOf];omega⟩
      rw[uh hsn2,List.length_append,List.length_append,List.map_append,List.map_append];exact hown2
    ·obtain rfl:j=m:=by omega
     have e:D.take j=D:=List.take_of_length_le (by rw[uh HRL];omega)
     rw[e] at hown;clear e;have i1:¬(j:Int)<(j:Int):=by omega
     obtain⟨aB,cB,rfl,hRd⟩:=zay hown;have HE:=Hi (zb2 aB _ cB (jn D) _ hRd (by omega))
     have b2e:=b23.trans (hb.mono b23.size);clear hown hRd
     go_wp2_with fail
     refine (uh HE).mono ?_
     rintro e w4 ⟨rfl,b4⟩
     go_wp2_with fail
     go_ret2
     exact⟨rfl,b2e.trans (b4.mono b2e.size)⟩
end sv
namespace lx
open ints (Hi uh zaB)
open mem
theorem zk5(l:List Int)(cl:Bool)(i j:Nat)(hj:j≤l.length):insZ (lkZ l cl) i j=(insZ l i j).map lkc:=by
 unfold insZ lkZ
 rcases Nat.lt_or_ge j i with h | h
 ·rw[show j-i=0 by omega];simp
 ·rw[List.drop_append_of_le_length (by simp;omega),List.take_append_of_le_length (by simp;omega)]
  simp[List.map_take,List.map_drop]
theorem zhm(l:List Int)(cl:Bool)(i j:Nat)(hj:j≤l.length)(hs:∀ x∈insZ l i j,soB x=true):insZ (lkZ l cl) i j=insZ l i j:=by
 rw[zk5 l cl i j hj]
 generalize insZ l i j=m at hs
 induction m with
 | nil=>rfl
 | cons a m ih =>
  rw[List.map_cons,ih (fun x hx=>hs x (by simp[hx]))]
  unfold lkc;rw[if_pos (hs a (by simp))]
theorem zhJ(l:List Int)(i j:Nat)(x:Int)(h:x∈insZ l i j):∃ k,i≤k∧k<j∧cAt l k=x:=by
 unfold insZ at h;obtain⟨m,hm,rfl⟩:=List.mem_iff_getElem.1 h;simp only[List.length_take,List.length_drop] at hm;refine⟨i+m,by omega,by omega,?_⟩
 rw[zbk (by omega)]
 simp[List.getD,show i+m<l.length by omega]
theorem zdW(l:List Int):∀ (f i j:Nat),endQ l f i=some j→∀ k,i≤k→k<j→soB (cAt l k)=true
 | 0,i,j,h=>by cases h
 | f+1,i,j,h=>by
  intro k h1 h2;unfold endQ at h
  split at h
  ·simp at h;omega
  ·split at h
   ·rename_i h92
    split at h
    ·cases h
    ·rename_i hn
     have hn2:soB (cAt l (i+1))=true:=by cases e:soB (cAt l (i+1)) with | true=>rfl | false=>exact absurd (.inr (.inr e)) hn
     by_cases e1:k=i
     ·subst e1;rw[h92];decide
     ·by_cases e2:k=i+1
      ·subst e2;exact hn2
      ·exact zdW l f (i+2) j h k (by omega) h2
   ·split at h
    ·cases h
    ·rename_i hn
     have hn2:soB (cAt l i)=true:=by cases e:soB (cAt l i) with | true=>rfl | false=>exact absurd (.inr (.inr e)) hn
     by_cases e1:k=i
     ·subst e1;exact hn2
     ·exact zdW l f (i+1) j h k (by omega) h2
theorem zi3(l:List Int)(f i j:Nat)(h:endQ l f i=some j):∀ x∈insZ l i j,soB x=true:=fun x hx=>by
 obtain⟨k,h1,h2,rfl⟩:=zhJ l i j x hx;exact zdW l f i j h k h1 h2
theorem zfG(l:List Int)(f i j:Nat)(h:endB l f i=some j):sv.std (insZ l i j) 0 0=true:=sv.zcY l f i j 0 0 h (by omega) (fun r h1 h2=>by omega) (fun e=>by cases e) (fun e=>by cases e)
theorem zfF(l:List Int)(f i j:Nat)(h:endB l f i=some j):∀ x∈insZ l i j,soB x=true:=fun x hx=>by
 rw[←sv.zio];exact sv.zgb _ _ 0 0 (lr _) (zfG l f i j h) x hx
def txG(l:List Int)(i:Nat):Int × Nat × ByteArray:=if tq l i=true then blc sv.bS l i else qtd l i
theorem zlW(a:Option Addr)(n c:Nat)(l:List Int)(cl:Bool)(i:Nat)(w:World)(h:Row .i32 w a n c (lkZ l cl))(hn:n≤1099511627778)(hln:l.length≤1099511627776)(hi:i+1≤l.length) :
  Calls prog 132 #[.slice a n c,.int .i64 (i:Int)] w fun e w'=>e = .returned (.tuple #[.int .i64 ((txG l i).2.1:Nat),.int .i64 (txG l i).1,.string (txG l i).2.2])∧Below w.heap.size w w':=by
 have T3:=Hi (zej a n c (lkZ l cl) i 34 w h hn (by omega))
 rw[zkF] at T3;have HR:=Hi h;obtain⟨b,off,rfl,hbw,hl1,hl2,hnc,hcell⟩:=zel h;clear hcell h
 cases ht:tq l i with
 | true =>
  have hi3:i+3≤l.length:=by have:=zci l i ht;omega
  have HB:=Hi (zia _ n c l cl i w (uh HR) hn hi3);have hT:txG l i=blcR sv.bS l i (endB l (l.length+2) (i+3)):=by unfold txG;rw[if_pos ht];rfl
  rw[hT];rw[ht] at T3;clear hT ht
  cases e:endB l (l.length+2) (i+3) with
  | none =>
   rw[e] at HB;clear e;have ei:((i:Int)==(i:Int))=true:=by simp
   go_enter func132,ntmps132
   go_wp2_with fail
   refine (uh T3).mono ?_
   rintro e w1 ⟨rfl,rfl⟩
   go_wp2_with fail
   refine (uh HB).mono ?_
   rintro e w2 ⟨rfl,b2⟩;unfold enB3
   go_wp2_with fail
   go_ret3
   exact⟨rfl,b2⟩
  | some j =>
   rw[e] at HB;have hle:=zbX l _ _ _ e;have hjl:=zci l j hle.2;have hstd:=Hi (zfG l _ _ _ e);have hins:=Hi (zfF l _ _ _ e)
   have HBl:=Hi (fun W (hb:Below w.heap.size w W)=>sv.zh9 (some ⟨b,off+(i+3),none⟩) (j-(i+3)) (c-(i+3)) (insZ l (i+3) j) W (by
    have:=zb3 (uh HR) (i+3) j hle.1 (by omega)
    rw[zhm l cl (i+3) j (by omega) (uh hins)] at this
    exact this.below hb) (by omega) (uh hstd))
   have hle1:=hle.1;have Hle2:=Hi hle.2;clear e hle hstd hins;obtain⟨J,hJ⟩:∃ J,J=j+3:=⟨_,rfl⟩;have HJ:=Hi (show enB3 l i (some j)=J from hJ.symm)
   rw[uh HJ] at HB;have ei:((J:Int)==(i:Int))=false:=by simp;omega
   have k1:(i:Int)+3≤(J:Int)-3:=by omega
   have k2:(J:Int)-3≤(c:Int):=by omega
   have k3:¬(c:Int)=(i:Int)+3:=by omega
   have k4:¬c=i+3:=by omega
   have k5:((J:Int)-3).toNat=j:=by omega
   have k6:((J:Int)-3)=(j:Int):=by omega
   have k7:(0:Int)≤(i:Int)+3:=by omega
   obtain⟨V,hV⟩:∃ V,V=sv.bS (insZ l (i+3) j):=⟨_,rfl⟩;have HV:=Hi (show blcR sv.bS l i (some j)=(7,J,V) from by rw[hV,hJ];rfl)
   rw[uh HV];rw[←hV] at HBl;clear hV hJ HV HJ
   go_enter func132,ntmps132
   go_wp2_with fail
   refine (uh T3).mono ?_
   rintro e w1 ⟨rfl,rfl⟩
   go_wp2_with fail
   refine (uh HB).mono ?_
   rintro e w2 ⟨rfl,b2⟩
   go_wp2_with fail
   refine (uh HBl _ b2).mono ?_
   rintro e w3 ⟨rfl,b3⟩
   go_wp2_with fail
   go_ret3
   exact⟨rfl,b2.trans (b3.mono b2.size)⟩
 | false =>
  have HB:=Hi (zgM _ n c l cl i w (uh HR) hn hi);have hT:txG l i=qtdR l i (endQ l (l.length+2) (i+1)):=by unfold txG;rw[ht,if_neg (by decide)];rfl
  rw[hT];rw[ht] at T3;clear hT ht
  cases e:endQ l (l.length+2) (i+1) with
  | none =>
   rw[e] at HB;clear e;have ei:((i:Int)==(i:Int))=true:=by simp
   go_enter func132,ntmps132
   go_wp2_with fail
   refine (uh T3).mono ?_
   rintro e w1 ⟨rfl,rfl⟩
   go_wp2_with fail
   refine (uh HB).mono ?_
   rintro e w2 ⟨rfl,b2⟩;unfold enQ1
   go_wp2_with fail
   go_ret3
   exact⟨rfl,b2⟩
  | some j =>
   rw[e] at HB;have hle:=zc6 l _ _ _ e;have hjl:=zeo l j hle.2;have hins:=Hi (zi3 l _ _ _ e)
   have HBl:=Hi (fun W (hb:Below w.heap.size w W)=>zgA (some ⟨b,off+(i+1),none⟩) (j-(i+1)) (c-(i+1)) (insZ l (i+1) j) W (by
    have:=zb3 (uh HR) (i+1) j hle.1 (by omega)
    rw[zhm l cl (i+1) j (by omega) (uh hins)] at this
    exact this.below hb) (by omega))
   have hle1:=hle.1;have Hle2:=Hi hle.2;clear e hle hins;obtain⟨J,hJ⟩:∃ J,J=j+1:=⟨_,rfl⟩;have HJ:=Hi (show enQ1 l i (some j)=J from hJ.symm)
   rw[uh HJ] at HB;have ei:((J:Int)==(i:Int))=false:=by simp;omega
   have k1:(i:Int)+1≤(J:Int)-1:=by omega
   have k2:(J:Int)-1≤(c:Int):=by omega
   have k3:¬(c:Int)=(i:Int)+1:=by omega
   have k4:¬c=i+1:=by omega
   have k5:((J:Int)-1).toNat=j:=by omega
   have k6:((J:Int)-1)=(j:Int):=by omega
   have k7:(0:Int)≤(i:Int)+1:=by omega
   have HV:=Hi (show qtdR l i (some j)=(match quo (insZ l (i+1) j) with | none=>(1,i,⟨#[]⟩) | some r=>(6,J,encS r)) from by rw[hJ];rfl)
   rw[uh HV];unfold quoS quoE at HBl;clear hJ HV HJ
   cases eq:quo (insZ l (i+1) j) with
   | none =>
    rw[eq] at HBl;clear eq
    go_enter func132,ntmps132
    go_wp2_with fail
    refine (uh T3).mono ?_
    rintro e w1 ⟨rfl,rfl⟩
    go_wp2_with fail
    refine (uh HB).mono ?_
    rintro e w2 ⟨rfl,b2⟩
    go_wp2_with fail
    refine (uh HBl _ b2).mono ?_
    rintro e w3 ⟨rfl,b3⟩
    go_wp2_with fail
    go_ret3
    exact⟨rfl,b2.trans (b3.mono b2.size)⟩
   | some r =>
    rw[eq] at HBl;clear eq;obtain⟨V,hV⟩:∃ V,V=encS r:=⟨_,rfl⟩;simp only[←hV] at HBl ⊢;clear hV
    go_enter func132,ntmps132
    go_wp2_with fail
    refine (uh T3).mono ?_
    rintro e w1 ⟨rfl,rfl⟩
    go_wp2_with fail
    refine (uh HB).mono ?_
    rintro e w2 ⟨rfl,b2⟩
    go_wp2_with fail
    refine (uh HBl _ b2).mono ?_
    rintro e w3 ⟨rfl,b3⟩
    go_wp2_with fail
    go_ret3
    exact⟨rfl,b2.trans (b3.mono b2.size)⟩
abbrev puN:ByteArray:=⟨#[33,36,38,40,41,58,61,64,91,93,123,124,125]⟩
theorem zmX(c:Int)(k:Nat)(h:k<13)(e:c=((puN[k]'(by exact h)).toNat:Int)):puB c=true:=by
 have:∀ k:Fin 13,puB ((puN[k.val]'(by exact k.isLt)).toNat:Int)=true:=by decide +kernel
 rw[e];exact this ⟨k,h⟩
theorem zlF(c:Int)(h:∀ k (hk:k<13),c≠((puN[k]'(by exact hk)).toNat:Int)):puB c=false:=by
 cases e:puB c with
 | false=>rfl
 | true =>
  exfalso
  unfold puB puL at e;simp at e
  rcases e with rfl | rfl | rfl | rfl | rfl | rfl | rfl | rfl | rfl | rfl | rfl | rfl | rfl
  ·exact h 0 (by decide) rfl
  ·exact h 1 (by decide) rfl
  ·exact h 2 (by decide) rfl
  ·exact h 3 (by decide) rfl
  ·exact h 4 (by decide) rfl
  ·exact h 5 (by decide) rfl
  ·exact h 6 (by decide) rfl
  ·exact h 7 (by decide) rfl
  ·exact h 8 (by decide) rfl
  ·exact h 9 (by decide) rfl
  ·exact h 10 (by decide) rfl
  ·exact h 11 (by decide) rfl
  ·exact h 12 (by decide) rfl
def puE(l:List Int)(cl:Bool)(i:Nat):Nat:=if puB (zA l cl i) then i+1 else if th3 (lkZ l cl) i 46 then i+3 else i
theorem zbe(a:Option Addr)(n c:Nat)(l:List Int)(cl:Bool)(i:Nat)(w:World)(h:Row .i32 w a n c (lkZ l cl))(hn:n≤1099511627778)(hi:i≤l.length) :
  Calls prog 133 #[.slice a n c,.int .i64 (i:Int)] w fun e w'=>e = .returned (.int .i64 (puE l cl i:Nat))∧Below w.heap.size w w':=by
 have T3:=Hi (fun W (hb:Below w.heap.size w W)=>zej a n c (lkZ l cl) i 46 W (h.below hb) hn (by have:=zcy l cl;have:=h.len;omega))
 obtain⟨b,off,rfl,hbw,hl1,hl2,hnc,hcell⟩:=zel h;have c0:=Hi (hcell i (by omega))
 have i1:(i:Int)<(n:Int):=by omega
 have hR:=Hi (show puE l cl i=(if puB (zA l cl i) then i+1 else if th3 (lkZ l cl) i 46 then i+3 else i) from rfl)
 obtain⟨x,hx⟩:∃ x,x=zA l cl i:=⟨_,rfl⟩;rw[←hx] at c0 hR;obtain⟨R,hRR⟩:∃ R,R=puE l cl i:=⟨_,rfl⟩;rw[←hRR] at hR ⊢;obtain⟨t,ht⟩:∃ t,t=th3 (lkZ l cl) i 46:=⟨_,rfl⟩;rw[←ht] at hR T3;clear hx hcell h hRR ht;obtain⟨S,hS,sS,vS⟩:∃ S:ByteArray,Hid (S=⟨#[33,36,38,40,41,58,61,64,91,93,123,124,125]⟩)∧S.size=13∧∀ k (h:k<S.size) (h8:k<13),S[k].toNat=(puN[k]'(by exact h8)).toNat:=⟨puN,rfl,rfl,fun k h h8=>rfl⟩
 have VS:=Hi vS;have zS:13≤S.size:=by omega
 have HS13:=Hi sS;clear vS sS
 go_enter func133,ntmps133
 go_wp2_with fail
 rw[←uh hS]
 go_loopw [6] (fun iv wr=>∃ k:Nat,k≤13∧iv = .int .i64 k∧Below w.heap.size w wr∧Hid (∀ j (hj:j<13),j<k→x≠((puN[j]'(by exact hj)).toNat:Int))) (fun i _=>13-(intOf i).toNat)
 case atStart=>exact⟨0,by omega,rfl,Below.refl _ _,Hi (fun j hj h=>by omega)⟩
 case round =>
  obtain⟨k,hk,rfl,hbel,hv⟩:=hrel;have c1:=(hbel.cell (p:=⟨b,off+i,none⟩) hbw).trans (uh c0)
  by_cases hlt:k<13
  ·have kS:k<S.size:=by omega
   have kk:(k:Int)<(S.size:Int):=by omega
   have k13:(k:Int)<13:=by omega
   by_cases e1:x=(S[k].toNat:Int)
   ·have hy:=Hi (show R=i+1 from by
     rw[uh hR,zmX x k hlt (by rw[←uh VS k kS hlt];exact e1),if_pos rfl])
    have b1:(x==wrap32 (S[k].toNat:Int))=true:=by rw[zaB];simpa using e1
    have b2:(x==(S[k].toNat:Int))=true:=by simpa using e1
    clear e1
    go_wp2_with fail
    go_region
    go_wp2_with fail
    go_ret
    exact⟨by rw[uh hy];first | rfl | go_num,Go.below_drewN hbel 1⟩
   ·have b1:(x==wrap32 (S[k].toNat:Int))=false:=by rw[zaB];simpa using e1
    have b2:(x==(S[k].toNat:Int))=false:=by simpa using e1
    have hv2:=Hi (show ∀ j (hj:j<13),j<k+1→x≠((puN[j]'(by exact hj)).toNat:Int) from fun j hj h=>by
     by_cases hjk:j<k
     ·exact uh hv j hj hjk
     ·obtain rfl:j=k:=by omega
      rw[←uh VS j kS hj]
      exact e1)
    clear e1
    go_wp2_with fail
    go_region
    go_wp2_with fail
    exact⟨⟨k+1,by omega,by go_num,Go.below_drewN hbel 1,hv2⟩,by simp only[intOf];omega⟩
  ·have hy:=Hi (show R=if t then i+3 else i from by rw[uh hR,zlF x (fun j hj=>uh hv j hj (by omega)),if_neg (by decide)])
   have kk:¬(k:Int)<(S.size:Int):=by rw[uh HS13];omega
   cases t with
   | true =>
    go_wp2_with fail
    refine (uh T3 _ hbel).mono ?_
    rintro e w1 ⟨rfl,rfl⟩
    go_wp2_with fail
    go_ret
    exact⟨by rw[uh hy];first | rfl | go_num,hbel⟩
   | false =>
    go_wp2_with fail
    refine (uh T3 _ hbel).mono ?_
    rintro e w1 ⟨rfl,rfl⟩
    go_wp2_with fail
    go_ret
    exact⟨by rw[uh hy];first | rfl | go_num,hbel⟩
open ints (Hi uh)
theorem zjn(l:List Int)(i:Nat)(h:nsB (cAt l i)=true):nam l i=nam l (i+1):=by
 rw[zeI,if_pos];unfold nsB at h;have:=of_decide_eq_true h;unfold nrB;exact decide_eq_true (.inl this)
theorem zmj(x:Int)(h:nsB x=true):x≠46∧x≠45∧x≠34∧puB x=false∧digB x=false:=by
 unfold nsB at h;have h:=of_decide_eq_true h;refine⟨by omega,by omega,by omega,?_,?_⟩
 ·cases e:puB x with
  | false=>rfl
  | true =>
   unfold puB puL at e;simp at e;omega
 ·unfold digB
  simp;omega
theorem zmi(x:Int)(h:digB x=true):x≠46∧x≠45∧x≠34∧puB x=false∧nsB x=false:=by
 unfold digB at h;simp only[Bool.and_eq_true,decide_eq_true_eq] at h;refine⟨by omega,by omega,by omega,?_,?_⟩
 ·cases e:puB x with
  | false=>rfl
  | true =>
   unfold puB puL at e;simp at e;omega
 ·unfold nsB
  exact decide_eq_false (by omega)
theorem zmk(x:Int)(h:puB x=true):x≠46∧x≠45∧x≠34∧digB x=false∧nsB x=false:=by
 unfold puB puL at h;simp at h;refine⟨by omega,by omega,by omega,?_,?_⟩
 ·unfold digB
  simp;omega
 ·unfold nsB
  exact decide_eq_false (by omega)
theorem znL(l:List Int)(cl:Bool)(i:Nat)(hi:i≤l.length):rdG l cl i=(if zA l cl i = -2 then (0,i,E0) else if nsB (zA l cl i) then (3,nam l i,E0) else if digB (zA l cl i)∨zA l cl i=45 then ((num l i).1,(num l i).2,E0) else if zA l cl i=34 then txG l i else if puB (zA l cl i) then (2,i+1,E0) else if th3 (lkZ l cl) i 46 then (2,i+3,E0) else (1,i,E0)):=by
 have h2:=znz l cl i hi;have hns:=zdq nsB (by decide) (by decide) (by decide) zmP l cl i
 have hdg:=zdq digB (by decide) (by decide) (by decide) zg6 l cl i
 have hpu:=zdq puB (by decide) (by decide) (by decide) zmY l cl i
 have h45:=zbh l cl i 45 (by decide)
 have h34:=zbh l cl i 34 (by decide)
 have h46:=znp l cl i 46 (by decide)
 have hnam:=zjn l i;have htq:tq l i=true→cAt l i=34:=fun e=>by unfold tq at e;exact (of_decide_eq_true e).1
 unfold rdG;rw[hns,hdg,hpu,h46]
 by_cases hE:i=l.length∧cl=true
 ·rw[if_pos hE,if_pos (h2.2 hE)]
 ·rw[if_neg hE,if_neg (fun e=>hE (h2.1 e))]
  simp only[h45,h34]
  generalize cAt l i=x at *
  cases e1:nsB x with
  | true =>
   obtain⟨a1,a2,a3,a4,a5⟩:=zmj x e1;have:=hnam e1;simp[a1,a4,this]
  | false =>
   by_cases e2:digB x=true∨x=45
   ·have h3:x≠46∧puB x=false:=by
     rcases e2 with e2 | e2
     ·have:=zmi x e2
      exact⟨this.1,this.2.2.2.1⟩
     ·subst e2
      exact⟨by decide,by decide⟩
    have e2':x=45∨digB x=true:=by rcases e2 with e | e;exact .inr e;exact .inl e
    rw[if_neg h3.1,h3.2];rw[if_pos e2',if_pos e2];rfl
   ·have e2':¬(x=45∨digB x=true):=fun e=>e2 (by rcases e with e | e;exact .inr e;exact .inl e)
    rw[if_neg e2',if_neg e2]
    by_cases e3:x=34
    ·subst e3
     rfl
    ·have htf:¬tq l i=true:=fun e=>e3 (htq e)
     rw[if_neg htf,if_neg e3,if_neg e3]
     cases e4:puB x with
     | true =>
      obtain⟨a1,_⟩:=zmk x e4;rw[if_neg a1];rfl
     | false =>
      by_cases e5:x=46
      ·rw[if_pos e5]
       by_cases e6:cAt l (i+1)=46∧cAt l (i+2)=46
       ·rw[if_pos e6,decide_eq_true (show x=46∧cAt l (i+1)=46∧cAt l (i+2)=46 from ⟨e5,e6⟩)]
        rfl
       ·rw[if_neg e6,decide_eq_false (show ¬(x=46∧cAt l (i+1)=46∧cAt l (i+2)=46) from fun e=>e6 e.2)]
        rfl
      ·rw[if_neg e5,decide_eq_false (show ¬(x=46∧cAt l (i+1)=46∧cAt l (i+2)=46) from fun e=>e5 e.1)]
       rfl
theorem zlG(a:Option Addr)(n c:Nat)(l:List Int)(cl:Bool)(i:Nat)(w:World)(h:Row .i32 w a n c (lkZ l cl))(hn:n≤1099511627778)(hln:l.length≤1099511627776)(hi:i≤l.length) :
  Calls prog 103 #[.slice a n c,.int .i64 (i:Int)] w fun e w'=>e = .returned (.tuple #[.int .i64 ((rdG l cl i).2.1:Nat),.int .i64 (rdG l cl i).1,.string (rdG l cl i).2.2])∧Below w.heap.size w w':=by
 have HZ:=Hi (znL l cl i hi);obtain⟨R,hR⟩:∃ R,R=rdG l cl i:=⟨_,rfl⟩;rw[←hR] at HZ ⊢;clear hR;have N1:=Hi (zjN a n c l cl i w h hn hi);have N2:=Hi (zgy a n c l cl i w h hn hi);have N3:=Hi (fun (h1:i+1≤l.length)=>zlW a n c l cl i w h hn hln h1)
 have N4:=Hi (zbe a n c l cl i w h hn hi);have H34:=Hi (show zA l cl i=34→i+1≤l.length from fun e=>zeo l i ((zbh l cl i 34 (by decide)).1 e))
 have HP:=Hi (show puE l cl i=(if puB (zA l cl i) then i+1 else if th3 (lkZ l cl) i 46 then i+3 else i) from rfl)
 obtain⟨b,off,rfl,hbw,hl1,hl2,hnc,hcell⟩:=zel h;have c0:=hcell i (by omega)
 have i1:(i:Int)<(n:Int):=by omega
 obtain⟨x,hx⟩:∃ x,x=zA l cl i:=⟨_,rfl⟩;rw[←hx] at HZ c0 H34 HP;obtain⟨t3,ht3⟩:∃ t,t=th3 (lkZ l cl) i 46:=⟨_,rfl⟩;rw[←ht3] at HZ HP;obtain⟨P,hP⟩:∃ P,P=puE l cl i:=⟨_,rfl⟩;rw[←hP] at HP N4;obtain⟨X,hX⟩:∃ X,X=txG l i:=⟨_,rfl⟩;rw[←hX] at HZ N3;obtain⟨nm,hnm⟩:∃ m,m=nam l i:=⟨_,rfl⟩;rw[←hnm] at HZ N1;obtain⟨nu,hnu⟩:∃ m,m=num l i:=⟨_,rfl⟩
 rw[←hnu] at HZ N2;clear hx ht3 hP hX hnm hnu hcell h;have S:=Hi (fun W=>zlM x W)
 have D:=Hi (fun W=>zlJ x W)
 by_cases e2:x = -2
 ·have hF:=Hi (show R=(0,i,E0) from by rw[uh HZ,if_pos e2])
  subst e2;clear HZ
  go_enter func103,ntmps103
  go_wp2_with fail
  go_ret3
  exact⟨by rw[uh hF];rfl,Below.refl _ _⟩
 ·have HZ2:=Hi (show R=_ from (uh HZ).trans (if_neg e2))
  have be2:(x == -2)=false:=by simpa using e2
  clear HZ e2
  cases ns:nsB x with
  | true =>
   have hF:=Hi (show R=(3,nm,E0) from by rw[uh HZ2,if_pos ns])
   rw[ns] at S;clear HZ2 ns
   go_enter func103,ntmps103
   go_wp2_with fail
   refine (uh S _).mono ?_
   rintro e w1 ⟨rfl,rfl⟩
   go_wp2_with fail
   refine (uh N1).mono ?_
   rintro e w2 ⟨rfl,b2⟩
   go_wp2_with fail
   go_ret3
   exact⟨by rw[uh hF];rfl,b2⟩
  | false =>
   have HZ3:=Hi (show R=_ from (uh HZ2).trans (if_neg (by rw[ns];decide)))
   rw[ns] at S;clear HZ2 ns
   cases dg:digB x with
   | true =>
    have hF:=Hi (show R=(nu.1,nu.2,E0) from by rw[uh HZ3,if_pos (.inl dg)])
    rw[dg] at D;clear HZ3 dg
    go_enter func103,ntmps103
    go_wp2_with fail
    refine (uh S _).mono ?_
    rintro e w1 ⟨rfl,rfl⟩
    go_wp2_with fail
    refine (uh D _).mono ?_
    rintro e w1 ⟨rfl,rfl⟩
    go_wp2_with fail
    refine (uh N2).mono ?_
    rintro e w2 ⟨rfl,b2⟩
    go_wp2_with fail
    go_ret3
    exact⟨by rw[uh hF];rfl,b2⟩
   | false =>
    by_cases h45:x=45
    ·have hF:=Hi (show R=(nu.1,nu.2,E0) from by rw[uh HZ3,if_pos (.inr h45)])
     rw[dg] at D;subst h45;clear HZ3 dg
     go_enter func103,ntmps103
     go_wp2_with fail
     refine (uh S _).mono ?_
     rintro e w1 ⟨rfl,rfl⟩
     go_wp2_with fail
     refine (uh D _).mono ?_
     rintro e w1 ⟨rfl,rfl⟩
     go_wp2_with fail
     refine (uh N2).mono ?_
     rintro e w2 ⟨rfl,b2⟩
     go_wp2_with fail
     go_ret3
     exact⟨by rw[uh hF];rfl,b2⟩
    ·have HZ4:=Hi (show R=_ from (uh HZ3).trans (if_neg (by rintro (e | e);rw[dg] at e;cases e;exact h45 e)))
     have b45:(x==45)=false:=by simpa using h45
     rw[dg] at D;clear HZ3 dg h45
     by_cases h34:x=34
     ·have hF:=Hi (show R=X from by rw[uh HZ4,if_pos h34])
      have N5:=Hi (uh N3 (uh H34 h34));subst h34;clear HZ4 N3 H34
      go_enter func103,ntmps103
      go_wp2_with fail
      refine (uh S _).mono ?_
      rintro e w1 ⟨rfl,rfl⟩
      go_wp2_with fail
      refine (uh D _).mono ?_
      rintro e w1 ⟨rfl,rfl⟩
      go_wp2_with fail
      refine (uh N5).mono ?_
      rintro e w2 ⟨rfl,b2⟩
      go_wp2_with fail
      go_ret3
      exact⟨by rw[uh hF];rfl,b2⟩
     ·have HZ5:=Hi (show R=_ from (uh HZ4).trans (if_neg h34))
      have b34:(x==34)=false:=by simpa using h34
      clear HZ4 h34 H34 N3
      by_cases hp:i<P
      ·have hF:=Hi (show R=(2,P,E0) from by
        have e:=uh HP;rw[uh HZ5]
        cases hpu:puB x with
        | true=>rw[hpu,if_pos rfl] at e;rw[e];rfl
        | false =>
         rw[hpu,if_neg (by decide)] at e
         cases t3 with
         | true=>rw[if_pos rfl] at e;rw[e];rfl
         | false=>rw[if_neg (by decide)] at e;omega)
       have pi:(i:Int)<(P:Int):=by omega
       clear HZ5 HP
       go_enter func103,ntmps103
       go_wp2_with fail
       refine (uh S _).mono ?_
       rintro e w1 ⟨rfl,rfl⟩
       go_wp2_with fail
       refine (uh D _).mono ?_
       rintro e w1 ⟨rfl,rfl⟩
       go_wp2_with fail
       refine (uh N4).mono ?_
       rintro e w2 ⟨rfl,b2⟩
       go_wp2_with fail
       go_ret3
       exact⟨by rw[uh hF];rfl,b2⟩
      ·have hF:=Hi (show R=(1,i,E0) from by
        have e:=uh HP;rw[uh HZ5]
        cases hpu:puB x with
        | true=>rw[hpu,if_pos rfl] at e;omega
        | false =>
         rw[hpu,if_neg (by decide)] at e
         cases t3 with
         | true=>rw[if_pos rfl] at e;omega
         | false=>rfl)
       have pi:¬(i:Int)<(P:Int):=by omega
       clear HZ5 HP
       go_enter func103,ntmps103
       go_wp2_with fail
       refine (uh S _).mono ?_
       rintro e w1 ⟨rfl,rfl⟩
       go_wp2_with fail
       refine (uh D _).mono ?_
       rintro e w1 ⟨rfl,rfl⟩
       go_wp2_with fail
       refine (uh N4).mono ?_
       rintro e w2 ⟨rfl,b2⟩
       go_wp2_with fail
       go_ret3
       exact⟨by rw[uh hF];rfl,b2⟩
theorem zhK(l:List Int):∀ (f p k:Nat),p≤k→k<namF l f p→soB (cAt l k)=true
 | 0,p,k,h1,h2=>by simp only[namF] at h2;omega
 | f+1,p,k,h1,h2=>by
  simp only[namF] at h2
  split at h2
  ·rename_i h
   by_cases e:k=p
   ·subst e;exact zln _ h
   ·exact zhK l f (p+1) k (by omega) h2
  ·omega
theorem zdV(l:List Int):∀ (f p k:Nat),p≤k→k<digsF l f p→soB (cAt l k)=true
 | 0,p,k,h1,h2=>by simp only[digsF] at h2;omega
 | f+1,p,k,h1,h2=>by
  simp only[digsF] at h2
  split at h2
  ·rename_i h
   by_cases e:k=p
   ·subst e;rw[zdT] at h;exact zg6 _ h
   ·exact zdV l f (p+1) k (by omega) h2
  ·omega
theorem zbY{l:List Int}{p:Nat}{c:Int}(h:isAt l p c=true)(hc:soB c=true):soB (cAt l p)=true:=by
 have h9:=zcF hc;rw[zhn l p c (by omega)] at h
 rw[of_decide_eq_true h];exact hc
theorem zh0(l:List Int)(p f:Nat)(hpf:p≤f)(hs:∀ k,p≤k→k<f→soB (cAt l k)=true):∀ k,p≤k→k<(bPart l p f).1→soB (cAt l k)=true:=by
 intro k h1 h2;unfold bPart at h2
 split at h2
 ·simp only at h2;omega
 ·split at h2
  ·simp only at h2;omega
  ·simp only at h2
   by_cases e:k<f
   ·exact hs k h1 e
   ·exact zdV l _ f k (by omega) h2
theorem zjE(l:List Int)(e:Nat):e≤bPoint l e∧∀ k,e≤k→k<bPoint l e→soB (cAt l k)=true:=by
 unfold bPoint
 split
 ·rename_i h
  exact⟨by omega,fun k h1 h2=>(by obtain rfl:k=e:=(by omega);exact zbY h (by decide))⟩
 ·exact⟨lr _,fun k h1 h2=>by omega⟩
theorem zlh(l:List Int)(e:Nat):e≤bMark l e∧∀ k,e≤k→k<bMark l e→soB (cAt l k)=true:=by
 unfold bMark
 split
 ·exact⟨lr _,fun k h1 h2=>by omega⟩
 ·rename_i h
  have h0:soB (cAt l e)=true:=by
   cases e1:isAt l e 101 with
   | true=>exact zbY e1 (by decide)
   | false =>
    cases e2:isAt l e 69 with
    | true=>exact zbY e2 (by decide)
    | false=>exact absurd ⟨e1,e2⟩ h
  split
  ·rename_i h2
   refine⟨by omega,fun k h3 h4=>?_⟩
   by_cases e0:k=e
   ·subst e0;exact h0
   ·obtain rfl:k=e+1:=by omega
    rcases h2 with h2 | h2
    ·exact zbY h2 (by decide)
    ·exact zbY h2 (by decide)
  ·refine⟨by omega,fun k h3 h4=>?_⟩
   obtain rfl:k=e:=by omega
   exact h0
theorem zkB(l:List Int)(p k:Nat)(h1:p≤k)(h2:k<(pfx l p).1):soB (cAt l k)=true:=by
 unfold pfx at h2
 split at h2
 ·simp only at h2;omega
 ·simp only at h2
  by_cases e1:k<pfxFirst l p
  ·unfold pfxFirst at e1
   split at e1
   ·rename_i h
    obtain rfl:k=p:=by omega
    exact zbY h (by decide)
   ·omega
  ·by_cases e2:k<bWhole l (pfxFirst l p)
   ·unfold bWhole at e2
    split at e2
    ·rename_i h
     obtain rfl:k=pfxFirst l p:=by omega
     exact zbY h (by decide)
    ·exact zdV l _ _ k (by omega) e2
   ·generalize bWhole l (pfxFirst l p)=e at *
    have hp:=zjE l e;have h3:=zh0 l e (bPoint l e) hp.1 hp.2;unfold pfxR at h2
    split at h2
    ·by_cases e3:k<(bPart l e (bPoint l e)).1
     ·exact h3 k (by omega) e3
     ·have hm:=zlh l (bPart l e (bPoint l e)).1
      exact zh0 l _ _ hm.1 hm.2 k (by omega) h2
    ·exact h3 k (by omega) h2
theorem zmQ(l:List Int)(i k:Nat)(h1:i≤k)(h2:k<(num l i).2):soB (cAt l k)=true:=by
 unfold num at h2
 split at h2
 ·simp only at h2;omega
 ·split at h2
  ·exact zkB l i k h1 h2
  ·split at h2
   ·exact zkB l i k h1 h2
   ·simp only at h2;omega
theorem zk6(l:List Int)(i j k:Nat)(h1:i≤k)(h2:k<j)(hl:k<l.length):cAt l k∈insZ l i j:=by
 unfold insZ;rw[zbk hl];refine List.mem_iff_getElem.2 ⟨k-i,by simp only[List.length_take,List.length_drop];omega,?_⟩
 simp[List.getD,hl,show i+(k-i)=k by omega]
theorem zm3(l:List Int)(cl:Bool)(i k:Nat)(h1:i≤k)(h2:k<(rdG l cl i).2.1):soB (cAt l k)=true:=by
 unfold rdG at h2
 split at h2
 ·simp only at h2;omega
 ·split at h2
  ·rename_i h46
   split at h2
   ·rename_i h
    simp only at h2;have:k=i∨k=i+1∨k=i+2:=by omega
    rcases this with rfl | rfl | rfl
    ·rw[h46];decide
    ·rw[h.1];decide
    ·rw[h.2];decide
   ·simp only at h2;omega
  ·split at h2
   ·rename_i h
    simp only at h2;obtain rfl:k=i:=by omega
    exact zmY _ h
   ·split at h2
    ·rename_i h
     simp only at h2
     by_cases e:k=i
     ·subst e;exact zmP _ h
     ·exact zhK l _ (i+1) k (by omega) h2
    ·split at h2
     ·exact zmQ l i k h1 h2
     ·split at h2
      ·rename_i ht
       unfold blc at h2;have t1:=ht;unfold tq at t1;have t1:=of_decide_eq_true t1
       cases e:endB l (l.length+2) (i+3) with
       | none=>rw[e] at h2;simp only[blcR] at h2;omega
       | some j =>
        rw[e] at h2;simp only[blcR] at h2;have hle:=zbX l _ _ _ e;have hjl:=zci l j hle.2
        by_cases c1:k<i+3
        ·have:k=i∨k=i+1∨k=i+2:=by omega
         rcases this with rfl | rfl | rfl
         ·rw[t1.1];decide
         ·rw[t1.2.1];decide
         ·rw[t1.2.2];decide
        ·by_cases c2:k<j
         ·exact zfF l _ _ _ e _ (zk6 l (i+3) j k (by omega) c2 (by omega))
         ·have t2:=hle.2
          unfold tq at t2;have t2:=of_decide_eq_true t2;have:k=j∨k=j+1∨k=j+2:=by omega
          rcases this with rfl | rfl | rfl
          ·rw[t2.1];decide
          ·rw[t2.2.1];decide
          ·rw[t2.2.2];decide
      ·split at h2
       ·rename_i h34
        unfold qtd at h2
        cases e:endQ l (l.length+2) (i+1) with
        | none=>rw[e] at h2;simp only[qtdR] at h2;omega
        | some j =>
         rw[e] at h2;simp only[qtdR] at h2;have hle:=zc6 l _ _ _ e
         cases eq:quo (insZ l (i+1) j) with
         | none=>rw[eq] at h2;simp only at h2;omega
         | some r =>
          rw[eq] at h2;simp only at h2
          by_cases c1:k=i
          ·subst c1;rw[h34];decide
          ·by_cases c2:k<j
           ·exact zdW l _ _ _ e k (by omega) c2
           ·obtain rfl:k=j:=by omega
            rw[hle.2];decide
       ·simp only at h2;omega
theorem zj3(l:List Int)(cl:Bool)(i:Nat)(hi:i≤l.length):insZ (lkZ l cl) i (rdG l cl i).2.1=(l.take (rdG l cl i).2.1).drop i:=by
 have h:=zf3 l cl i hi;rw[zhm l cl i _ h.2.1 (fun x hx=>by obtain⟨k,h1,h2,rfl⟩:=zhJ l i _ x hx;exact zm3 l cl i k h1 h2)]
 unfold insZ;rw[List.drop_take]
open cu (Tk)
open dt (zac zab zad)
structure PlR (w:World) (pb n:Nat) (l:List Int):Prop where
 lt:pb<w.heap.size
 at_:∀ f,f<n→w.cell? ⟨pb,f * 2,none⟩=some (.int .i64 (posT l f).1)∧w.cell? ⟨pb,f * 2+1,none⟩=some (.int .i64 (posT l f).2)
theorem PlR.below{w w':World}{pb n:Nat}{l:List Int}(h:PlR w pb n l)(hb:Below w.heap.size w w'):PlR w' pb n l:=
 ⟨Nat.lt_of_lt_of_le h.lt hb.size,fun f hf=>⟨(hb.cell (p:=⟨pb,f * 2,none⟩) h.lt).trans (h.at_ f hf).1,(hb.cell (p:=⟨pb,f * 2+1,none⟩) h.lt).trans (h.at_ f hf).2⟩⟩
theorem zdm(a:Option Addr)(n c:Nat)(l:List Int)(cl:Bool)(pb pc i:Nat)(w:World)(h:Row .i32 w a n c (lkZ l cl))(hp:PlR w pb (l.length+1) l)(hn:n≤1099511627778)(hln:l.length≤1099511627776)(hi:i≤l.length) :
  Calls prog 79 #[.slice a n c,.slice (some ⟨pb,0,none⟩) (l.length+1) pc,.int .i64 (i:Int)] w fun e w'=>e = .returned (.agg #[.int .i64 (tkG l cl i).k,.int .i64 (tkG l cl i).ln,.int .i64 (tkG l cl i).co,.int .i64 (tkG l cl i).fr,.int .i64 (tkG l cl i).to,.string (tkG l cl i).tx,.string (tkG l cl i).va])∧Below w.heap.size w w':=by
 have hF:=zey l false i;have hF1:=hF.2 hi;have B:=Hi (fun W (hb:Below w.heap.size w W)=>zgY a n c l cl i W (h.below hb) hn hi)
 have O:=Hi (fun W (hb:Below w.heap.size w W)=>zlG a n c l cl (ign l false i) W (h.below hb) hn hln hF1)
 have hT:=zf3 l cl (ign l false i) hF1;have HR:=Hi h;have HX:=Hi (zj3 l cl (ign l false i) hF1);obtain⟨b,off,rfl,hbw,hl1,hl2,hnc,hcell⟩:=zel h;have E:=Hi (fun W (hb:Below w.heap.size w W)=>zb2 (some ⟨b,off+ign l false i,none⟩) ((rdG l cl (ign l false i)).2.1-ign l false i) (c-ign l false i) (insZ (lkZ l cl) (ign l false i) (rdG l cl (ign l false i)).2.1) W ((zb3 (uh HR) (ign l false i) (rdG l cl (ign l false i)).2.1 hT.1 (by omega)).below hb) (by omega))
 rw[uh HX] at E;unfold tkG;obtain⟨F,hFe⟩:∃ F,F=ign l false i:=⟨_,rfl⟩;rw[←hFe] at hF1 B O hT E ⊢;obtain⟨T,hTe⟩:∃ T,T=(rdG l cl F).2.1:=⟨_,rfl⟩;obtain⟨K,hKe⟩:∃ K,K=(rdG l cl F).1:=⟨_,rfl⟩;obtain⟨V,hVe⟩:∃ V,V=(rdG l cl F).2.2:=⟨_,rfl⟩;rw[←hTe,←hKe,←hVe] at O ⊢;rw[←hTe] at E;have hT1:F≤T:=by rw[hTe];exact hT.1
 have hT2:T≤l.length:=by rw[hTe];exact hT.2.1
 obtain⟨X,hXe⟩:∃ X,X=encS ((l.take T).drop F):=⟨_,rfl⟩;rw[←hXe] at E ⊢;have HP:=Hi (hp.at_ F (by omega))
 have hpl:=hp.lt;obtain⟨p1,hp1⟩:∃ p,p=(posT l F).1:=⟨_,rfl⟩;obtain⟨p2,hp2⟩:∃ p,p=(posT l F).2:=⟨_,rfl⟩;rw[←hp1,←hp2] at HP ⊢;obtain⟨N,hN⟩:∃ N,N=l.length:=⟨_,rfl⟩;rw[←hN] at hF1 hT2 hl1 hl2 hln hi ⊢;clear hFe hTe hKe hVe hXe hp1 hp2 hN hF hT hcell h hp HX HR;have k1:(F:Int)≤(T:Int):=by omega
 have k2:(T:Int)≤(c:Int):=by omega
 have k3:¬(F:Int)=(c:Int):=by omega
 have k4:¬c=F:=by omega
 have k5:(F:Int)<(N:Int)+1:=by omega
 have k6:(F:Int)<((N+1:Nat):Int):=by omega
 go_enter func79,ntmps79
 go_wp2_with fail
 obtain⟨w0,hw0⟩:∃ w0,w0=w.alloc (.cells #[Value.int IntKind.i64 0,Value.int IntKind.i64 0,Value.int IntKind.i64 0,Value.int IntKind.i64 0,Value.int IntKind.i64 0,Value.string { data:=#[] },Value.string { data:=#[] }] 77):=⟨_,rfl⟩;have b0:Below w.heap.size w w0:=by rw[hw0];exact ba
 have hth:Hid (w0.heap[w.heap.size]? = some (.cells #[Value.int IntKind.i64 0,Value.int IntKind.i64 0,Value.int IntKind.i64 0,Value.int IntKind.i64 0,Value.int IntKind.i64 0,Value.string { data:=#[] },Value.string { data:=#[] }] 77 (0,0))):=Hi (by
  rw[hw0]
  exact heap_alloc_new w _)
 have hz1:w.heap.size<w0.heap.size:=by rw[hw0];simp
 rw[←hw0];clear hw0;refine (uh B _ b0).mono ?_
 rintro e w1 ⟨rfl,b1⟩;have b01:=b0.trans (b1.mono b0.size)
 go_wp2_with fail
 refine (uh O _ b01).mono ?_
 rintro e w2 ⟨rfl,b2⟩;have b02:=b01.trans (b2.mono b01.size)
 go_wp2_with fail
 refine (uh E _ b02).mono ?_
 rintro e w3 ⟨rfl,b3⟩;have b03:=b02.trans (b3.mono b02.size);have d0:=(b03.cell (p:=⟨pb,F * 2,none⟩) hpl).trans (uh HP).1;have d1:=(b03.cell (p:=⟨pb,F * 2+1,none⟩) hpl).trans (uh HP).2;have b12:=b1.trans (b2.mono b1.size);have b13:=b12.trans (b3.mono b12.size);have hbx:=(b13.block w.heap.size hz1).trans (uh hth);have hthr:w3.there w.heap.size 0 7:=zac hbx (by decide)
 have HB:=Hi b03;clear B O E HP b0 b1 b01 b2 b02 b3 b03 b12 b13 hbx
 go_wp2_with (first
  | refine wpList_store_mid (by rfl) 77 _ _ (by rfl) w.heap.size 0 #[.int .i64 K,.int .i64 p1,.int .i64 p2,.int .i64 (F:Int),.int .i64 (T:Int),.string X,.string V] (by rfl) (by rfl) hthr infoTk (zab (cs:=[.int .i64 K,.int .i64 p1,.int .i64 p2,.int .i64 (F:Int),.int .i64 (T:Int),.string X,.string V]) (by rfl)) ?_)
 refine bodyPost_ret (rgn.zai rfl _ _ w.heap.size 0 [.int .i64 K,.int .i64 p1,.int .i64 p2,.int .i64 (F:Int),.int .i64 (T:Int),.string X,.string V] _ rfl (World.rangeAt_setCells_same _ _ _ _ hthr) underlying77 rfl infoTk) rfl ?_
 exact⟨rfl,zad _ _ _ _ (uh HB) (lr _)⟩
end lx
namespace mem
open ints (Hi uh)
theorem zf8(a a':Option Addr)(n n' c c':Nat)(zs zs':List Int)(w:World)(h:Row .u8 w a n c zs)(h':Row .u8 w a' n' c' zs')(hn:n≤9223372036854775807) :
  Calls prog 124 #[.slice a n c,.slice a' n' c'] w fun e w'=>e = .returned (.bool (decide (zs=zs')))∧Below w.heap.size w w':=by
 by_cases hl:n=n'
 ·subst hl
  have hne:((n:Int) != (n:Int))=false:=by simp
  go_enter func124,ntmps124
  go_wp2
  go_loopw [5] (fun i wr=>∃ k:Nat,k≤n∧i = .int .i64 k∧Hid (∀ j,j<k→zs.getD j 0=zs'.getD j 0)∧Below w.heap.size w wr) (fun i _=>n-(intOf i).toNat)
  case atStart=>exact⟨0,Nat.zero_le _,rfl,Hi (fun j hj=>by omega),Below.refl _ _⟩
  case round =>
   obtain⟨k,hk,rfl,heq,hbel⟩:=hrel
   by_cases hlt:k<n
   ·rcases h.at_ with h0 | ⟨b,off,rfl,hbw,hcell⟩
    ·omega
    rcases h'.at_ with h0 | ⟨b',off',rfl,hbw',hcell'⟩
    ·omega
    have c1:=(hbel.cell (p:=⟨b,off+k,none⟩) hbw).trans (hcell k hlt);have c2:=(hbel.cell (p:=⟨b',off'+k,none⟩) hbw').trans (hcell' k hlt);obtain⟨x,hx⟩:∃ x,x=zs.getD k 0:=⟨_,rfl⟩;obtain⟨y,hy⟩:∃ y,y=zs'.getD k 0:=⟨_,rfl⟩;rw[←hx] at c1;rw[←hy] at c2;have Hx:=Hi hx;have Hy:=Hi hy;have ki:(k:Int)<(n:Int):=by omega
    clear hx hy hcell hcell'
    by_cases hxy:x=y
    ·have hb:(x != y)=false:=by simpa using hxy
     have Hxy:=Hi hxy;clear hxy
     go_wp2
     go_quiet (fail)
     go_wp2
     go_roundw
     case rel =>
      refine⟨k+1,by omega,by go_num,Hi (fun j hj=>?_),below_drewN hbel _⟩
      by_cases hjk:j<k
      ·exact uh heq j hjk
      ·obtain rfl:j=k:=by omega
       rw[←uh Hx,←uh Hy,uh Hxy]
     case measure=>simp[intOf];omega
    ·have hb:(x != y)=true:=by simpa using hxy
     have Hxy:=Hi hxy;clear hxy
     go_wp2
     go_quiet (fail)
     go_wp2
     go_ret
     have hd:decide (zs=zs')=false:=by
      rw[decide_eq_false_iff_not];intro e
      apply uh Hxy
      rw[uh Hx,uh Hy,e]
     rw[hd];exact⟨rfl,below_drewN hbel _⟩
   ·have hd:=Hi (show decide (zs=zs')=true from by
     rw[decide_eq_true_iff]
     exact zjb (by rw[h.len,h'.len]) (fun j hj=>uh heq j (by have:=h.len;omega)))
    go_wp2
    go_ret
    rw[uh hd];exact⟨rfl,hbel⟩
 ·have hne:((n:Int) != (n':Int))=true:=by simp;omega
  have hd:=Hi (show decide (zs=zs')=false from by
   rw[decide_eq_false_iff_not];intro e
   apply hl
   rw[←h.len,←h'.len,e])
  go_enter func124,ntmps124
  go_wp2
  go_ret
  rw[uh hd];exact⟨rfl,Below.refl _ _⟩
def numTo(m:Int)(g:List Int):Nat→Int
 | 0=>g.getD 0 0%m
 | j+1=>numTo m g j * 64+g.getD (j+1) 0%64
theorem zjr(m:Int)(hm0:1≤m)(hm:m≤128)(g:List Int)(hg:Byt g)(j:Nat)(hj:j≤3):0≤numTo m g j∧numTo m g j≤33554431:=by
 have h0:=zbq hg 0;have e0:0≤g.getD 0 0%m∧g.getD 0 0%m≤127:=⟨Int.emod_nonneg _ (by omega),by have:=Int.emod_lt_of_pos (g.getD 0 0) (show 0<m by omega);omega⟩
 match j,hj with
 | 0,_=>unfold numTo;omega
 | 1,_=>unfold numTo numTo;omega
 | 2,_=>unfold numTo numTo numTo;omega
 | 3,_=>unfold numTo numTo numTo numTo;omega
theorem zgx(a:Option Addr)(k m c:Nat)(g:List Int)(w:World)(h:Row .u8 w a k c g)(hg:Byt g)(hkm:(k=1∧m=128)∨(k=2∧m=32)∨(k=3∧m=16)∨(k=4∧m=8)) :
  Calls prog 122 #[.slice a k c] w fun e w'=>e = .returned (.int .i32 (numTo m g (k-1)))∧Below w.heap.size w w':=by
 have k1:1≤k:=by omega
 have k4:k≤4:=by omega
 have m0:1≤m:=by omega
 have m1:m≤128:=by omega
 rcases h.at_ with h0 | ⟨b,off,rfl,hbw,hcell⟩
 ·omega
 obtain⟨o,ho⟩:∃ o,o=Obj.cells #[.int .i64 0,.int .i64 128,.int .i64 32,.int .i64 16,.int .i64 8] 3 (0,0):=⟨_,rfl⟩
 have hf:(w.alloc o).cell? ⟨w.heap.size,k,none⟩=some (.int .i64 (m:Int)):=by
  rw[ho,World.cell?_alloc_at _ _ _ _ rfl]
  rcases hkm with ⟨rfl,rfl⟩ | ⟨rfl,rfl⟩ | ⟨rfl,rfl⟩ | ⟨rfl,rfl⟩ <;> rfl
 have hbel0:Below w.heap.size w (w.alloc o):=(Below.refl _ _).alloc (lr _) o;have hc0:=(hbel0.cell (p:=⟨b,off+0,none⟩) hbw).trans (hcell 0 (by omega))
 rw[Nat.add_zero] at hc0;have hb0:=zbq hg 0;obtain⟨x,hx⟩:∃ x,x=g.getD 0 0:=⟨_,rfl⟩;rw[←hx] at hc0 hb0;have x0:=hb0.1;have x1:=hb0.2;have Hx:=Hi hx;have ki1:(0:Int)<(k:Int):=by omega
 have ki5:(k:Int)<5:=by omega
 have kn:0<k:=by omega
 have mi0:(1:Int)≤(m:Int):=by omega
 have mne:((m:Int)==0)=false:=by simp;omega
 have HC:=Hi hcell;have HK:=Hi hkm;have HO:=Hi ho;clear hx hb0 hcell hkm ho
 go_enter func122,ntmps122
 go_wp2
 rw[←uh HO]
 go_quiet (fail)
 clear HO
 go_wp2
 go_loopw [4,5] (fun nv i wr=>∃ j:Nat,j+1≤k∧i = .int .i64 ((j:Int)+1)∧nv = .int .i64 (numTo m g j)∧Below w.heap.size w wr) (fun _ i _=>k-(intOf i).toNat)
 case atStart=>exact⟨0,by omega,rfl,by rw[uh Hx];rfl,below_drewN hbel0 _⟩
 case round =>
  obtain⟨j,hj,rfl,rfl,hbel⟩:=hrel;have hbd:=zjr m (by omega) (by omega) g hg j (by omega)
  have p0:=hbd.1;have p1:=hbd.2
  by_cases hlt:j+1<k
  ·have hc:=(hbel.cell (p:=⟨b,off+(j+1),none⟩) hbw).trans (uh HC (j+1) hlt)
   have hyb:=zbq hg (j+1);have hnext:=Hi (show numTo m g (j+1)=numTo m g j * 64+g.getD (j+1) 0%64 from rfl)
   generalize numTo m g j=N at *
   generalize g.getD (j+1) 0=y at *
   have y0:=hyb.1;have y1:=hyb.2;have hlti:(j:Int)+1<(k:Int):=by omega
   clear hyb hbd hf hc0
   go_wp2
   go_roundw
   case rel=>exact⟨j+1,by omega,by go_num,by rw[uh hnext],hbel⟩
   case measure=>simp[intOf];omega
  ·have ej:=Hi (show k-1=j from by omega)
   have hlti:¬(j:Int)+1<(k:Int):=by omega
   clear hf hc0
   go_wp2
   go_ret
   rw[uh ej];exact⟨rfl,hbel⟩
theorem Row.take{k:IntKind}{w:World}{a:Option Addr}{n c:Nat}{l:List Int}(h:Row k w a n c l){m:Nat}(hm:m≤n):Row k w a m c (l.take m):=by
 refine⟨by simp[h.len];omega,Nat.le_trans hm h.le,h.nil,?_⟩
 rcases h.at_ with h0 | ⟨b,off,ha,hb,hc⟩
 ·exact .inl (by omega)
 ·exact .inr ⟨b,off,ha,hb,fun i hi=>by rw[hc i (by omega)];simp[List.getD,hi]⟩
def mOf(k:Nat):Nat:=if k=1 then 128 else if k=2 then 32 else if k=3 then 16 else 8
theorem zhH(k:Nat)(h1:1≤k)(h4:k≤4):(k=1∧mOf k=128)∨(k=2∧mOf k=32)∨(k=3∧mOf k=16)∨(k=4∧mOf k=8):=by
 unfold mOf;repeat' split
 all_goals omega
def numK(l:List Int)(k:Nat):Int:=numTo (mOf k) (l.take k) (k-1)
def hit(l:List Int)(k:Nat):Prop:=scP (numK l k)∧putB (numK l k)=l.take k
theorem zlq(c:Int)(h:scP c):numTo (mOf (putB c).length) (putB c) ((putB c).length-1)=c:=by
 unfold scP at h
 by_cases h1:c<128
 ·rw[zcc h1]
  show c%128=c
  omega
 by_cases h2:c<2048
 ·rw[zdj (by omega) h2]
  show (192+c/64)%32 * 64+(128+c%64)%64=c
  omega
 by_cases h3:c<65536
 ·rw[zdk (by omega) h3]
  show ((224+c/4096)%16 * 64+(128+c/64%64)%64) * 64+(128+c%64)%64=c
  omega
 ·rw[zeM (by omega)]
  show (((240+c/262144)%8 * 64+(128+c/4096%64)%64) * 64+(128+c/64%64)%64) * 64+(128+c%64)%64=c
  omega
theorem zhO(l:List Int)(h:(oneL l).2=0):oneL l=(0,0):=by
 unfold oneL oneQ at h ⊢
 repeat' split at h
 all_goals first | (simp at h;done) | skip
 rw[if_neg ‹_›,if_neg ‹_›,if_neg ‹_›,if_neg ‹_›]
theorem zk0(l:List Int)(k:Nat)(hk:k≤l.length)(h:hit l k):oneL l=(numK l k,k):=by
 obtain⟨h1,h2⟩:=h;have e:l=putB (numK l k)++l.drop k:=by rw[h2,List.take_append_drop]
 have hl:(putB (numK l k)).length=k:=by rw[h2];simp;omega
 have:=zd8 (numK l k) h1 (l.drop k);rw[←e,hl] at this;exact this
theorem zkt(l:List Int)(hb:Byt l)(h:∀ j,1≤j→j≤4→j≤l.length → ¬hit l j):oneL l=(0,0):=by
 by_cases h0:(oneL l).2=0
 ·exact zhO l h0
 ·exfalso
  obtain⟨h1,h2,h3⟩:=zcW l hb h0;have ht:=zis l _ _ _ h2 h3;refine h (oneL l).2 (by omega) (zmT l) (zd7 l) ?_
  have hn:numK l (oneL l).2=(oneL l).1:=by
   unfold numK;rw[ht];have:=zlq _ h1;rw[←h3] at this;exact this
  exact⟨by rw[hn];exact h1,by rw[hn,ht]⟩
theorem zfc{l:List Int}{k:Nat}(h:∀ j,1≤j→j<k → ¬hit l j)(hk:¬hit l k):∀ j,1≤j→j<k+1 → ¬hit l j:=by
 intro j h1 h2
 by_cases e:j=k
 ·subst e;exact hk
 ·exact h j h1 (by omega)
theorem zls(a:Option Addr)(n c:Nat)(l:List Int)(w:World)(h:Row .u8 w a n c l)(hz:Byt l)(hn:n≤9223372036854775807) :
  Calls prog 99 #[.slice a n c] w fun e w'=>e = .returned (.tuple #[.int .i32 (oneL l).1,.int .i64 ((oneL l).2:Int)])∧Below w.heap.size w w':=by
 go_enter func99,ntmps99
 go_wp2
 go_loopw [4] (fun i wr=>∃ k:Nat,1≤k∧k≤5∧k≤n+1∧i = .int .i64 k∧Hid (∀ j,1≤j→j<k → ¬hit l j)∧Below w.heap.size w wr) (fun i _=>5-(intOf i).toNat)
 case atStart=>exact⟨1,by omega,by omega,by omega,rfl,Hi (fun j h1 h2=>by omega),Below.refl _ _⟩
 case round =>
  obtain⟨k,k1,k5,kn,rfl,hno,hbel⟩:=hrel
  by_cases h4:k≤4
  ·by_cases hkn:k≤n
   ·have hr:=(h.below hbel).take hkn
    rcases h.at_ with h0 | ⟨b,off,rfl,hbw,hcell⟩
    ·omega
    have kc:=h.le;have kci:(k:Int)≤(c:Int):=by omega
    have hN:=Hi (zgx _ k (mOf k) c (l.take k) wr hr (fun z hz'=>hz z (List.mem_of_mem_take hz')) (zhH k k1 h4))
    obtain⟨C,hC⟩:∃ C,C=numK l k:=⟨_,rfl⟩;have hnx:=Hi (show numTo (mOf k) (l.take k) (k-1)=C from by rw[hC];rfl)
    rw[uh hnx] at hN;have HC:=Hi hC;clear hC hcell
    go_wp2_with fail
    refine (uh hN).mono ?_
    rintro e w1 ⟨rfl,hb1⟩;have hbel1:=hbel.trans (hb1.mono hbel.size);have hr1:=hr.below hb1;clear hN hr hb1 hbel
    by_cases hs:scP C
    ·have hpl:=zcd C
     obtain⟨P,hP⟩:∃ P,P=putB C:=⟨_,rfl⟩;have R:=Hi (zh7 C w1 hs);obtain⟨o,ho⟩:∃ o,o=Obj.cells ((putB C).map (Value.int .u8)).toArray 5 (0,0):=⟨_,rfl⟩;have hlit:=zh6 w1 (putB C) (putB C).length (by unfold maxLen;omega) rfl
     rw[←ho] at R hlit;rw[←hP] at R hlit hpl;have hbo:Below w1.heap.size w1 (w1.alloc o):=(Below.refl _ _).alloc (lr _) o
     have hrp:Row .u8 (w1.alloc o) (some ⟨w1.heap.size,0,none⟩) P.length P.length P:=by
      obtain⟨a',cap',e',hr'⟩:=zay hlit;simp only[Value.slice.injEq] at e';obtain⟨rfl,_,rfl⟩:=e';exact hr'
     have hr2:=hr1.below hbo;have hbel2:Below w.heap.size w (w1.alloc o):=hbel1.trans (hbo.mono hbel1.size);have HP:=Hi hP;clear ho hP hlit hbo
     by_cases hlen:P.length=k
     ·have hb:((P.length:Int)==(k:Int))=true:=by simp;omega
      by_cases heq:P=l.take k
      ·have hone:=Hi (zk0 l k (by rw[h.len];exact hkn) ⟨by rw[←uh HC];exact hs,by rw[←uh HC,←uh HP];exact heq⟩)
       have S:=Hi (zf8 _ _ P.length k _ _ P (l.take k) (w1.alloc o) hrp hr2 (by omega))
       have hd:decide (P=l.take k)=true:=by simpa using heq
       rw[hd] at S;clear hlen heq hd
       go_wp2_with fail
       refine (uh R).mono ?_
       rintro e w' ⟨rfl,rfl⟩;clear R
       go_wp2_with fail
       refine (uh S).mono ?_
       rintro e w3 ⟨rfl,hb3⟩;clear S
       go_wp2
       go_ret2
       rw[uh hone,←uh HC];exact⟨rfl,hbel2.trans (hb3.mono hbel2.size)⟩
      ·have hnot:=Hi (show ¬hit l k from fun hh=>heq (by rw[uh HP,uh HC];exact hh.2))
       have S:=Hi (zf8 _ _ P.length k _ _ P (l.take k) (w1.alloc o) hrp hr2 (by omega))
       have hd:decide (P=l.take k)=false:=by simpa using heq
       rw[hd] at S;clear hlen heq hd
       go_wp2_with fail
       refine (uh R).mono ?_
       rintro e w' ⟨rfl,rfl⟩;clear R
       go_wp2_with fail
       refine (uh S).mono ?_
       rintro e w3 ⟨rfl,hb3⟩;clear S
       go_wp2
       go_roundw
       case rel=>exact⟨k+1,by omega,by omega,by omega,by go_num,Hi (zfc (uh hno) (uh hnot)),hbel2.trans (hb3.mono hbel2.size)⟩
       case measure=>simp[intOf];omega
     ·have hb:((P.length:Int)==(k:Int))=false:=by simp;omega
      have hnot:=Hi (show ¬hit l k from fun hh=>hlen (by rw[uh HP,uh HC,hh.2];simp[h.len];omega))
      clear hlen
      go_wp2_with fail
      refine (uh R).mono ?_
      rintro e w' ⟨rfl,rfl⟩;clear R
      go_wp2
      go_roundw
      case rel=>exact⟨k+1,by omega,by omega,by omega,by go_num,Hi (zfc (uh hno) (uh hnot)),hbel2⟩
      case measure=>simp[intOf];omega
    ·have hnot:=Hi (show ¬hit l k from fun hh=>hs (by rw[uh HC];exact hh.1))
     have hb:((0:Int)==(k:Int))=false:=by simp;omega
     go_wp2_with fail
     refine (zkD C _ hs).mono ?_
     rintro e w' ⟨rfl,rfl⟩
     go_wp2
     go_roundw
     case rel=>exact⟨k+1,by omega,by omega,by omega,by go_num,Hi (zfc (uh hno) (uh hnot)),hbel1⟩
     case measure=>simp[intOf];omega
   ·have hfin:=Hi (zkt l hz (fun j h1 h2 h3=>uh hno j h1 (by rw[h.len] at h3;omega)))
    go_wp2
    go_ret2
    rw[uh hfin];exact⟨rfl,hbel⟩
  ·have hfin:=Hi (zkt l hz (fun j h1 h2 h3=>uh hno j h1 (by omega)))
   go_wp2
   go_ret2
   rw[uh hfin];exact⟨rfl,hbel⟩
theorem Row.drop{k:IntKind}{w:World}{b off n c:Nat}{l:List Int}(h:Row k w (some ⟨b,off,none⟩) n c l){m:Nat}(hm:m≤n)(hbw:b<w.heap.size)(hcell:∀ i,i<n→w.cell? ⟨b,off+i,none⟩=some (.int k (l.getD i 0))) :
  Row k w (some ⟨b,off+m,none⟩) (n-m) (c-m) (l.drop m):=by
 refine⟨by simp[h.len],by have:=h.le;omega,(fun e=>by cases e),.inr ⟨b,off+m,rfl,hbw,fun i hi=>?_⟩⟩
 rw[Nat.add_assoc,hcell (m+i) (by omega),zbG]
theorem ziM(w:World)(x:Value)(t:TypeId):∀ j u,[x][j]? = some u→(w.alloc (.cells #[x] t)).cell? ((⟨w.heap.size,0,none⟩:Addr).add j)=some u:=by
 intro j u hj
 match j,hj with
 | 0,hj=>simp at hj;subst hj;simp[Addr.add]
 | (j+1),hj=>simp at hj
theorem zfj(a:Option Addr)(n c:Nat)(l:List Int)(w:World)(h:Row .u8 w a n c l)(hz:Byt l)(hn:4 * n≤140737488355328) :
  Calls prog 76 #[.slice a n c] w fun e w'=>∃ v,e = .returned (.tuple #[v,.int .i64 ((decZ l).2:Int)]) ∧
   w'.ownsRow w.heap.size 21 1 v (decZ l).1.length ((decZ l).1.map (Value.int .i32))∧Below w.heap.size w w':=by
 obtain⟨i0,hi,hz0,hz1,hz2⟩:=info_parts info32
 go_enter func76,ntmps76
 go_wp2
 go_loopw [4,5] (fun v i wr=>∃ (pos f:Nat) (acc:List Int),pos≤n∧n-pos≤f∧i = .int .i64 pos∧wr.ownsRow w.heap.size 21 1 v acc.length (acc.map (Value.int .i32))∧acc.length≤pos ∧
   Hid (acc++(decF f (l.drop pos)).1=(decZ l).1)∧Hid (pos+(decF f (l.drop pos)).2=(decZ l).2)∧Below w.heap.size w wr) (fun _ i _=>n-(intOf i).toNat)
 case atStart=>exact⟨0,l.length,[],Nat.zero_le _,by rw[h.len];omega,rfl,World.ownsRow_nil _ _ _ _,lr _,Hi (by simp[decZ]),Hi (by simp[decZ]),Below.refl _ _⟩
 case round =>
  obtain⟨pos,f,acc,hpn,hf,rfl,hown,hacc,hA,hB,hbel⟩:=hrel
  by_cases hlt:pos<n
  ·rcases h.at_ with h0 | ⟨b,off,rfl,hbw,hcell⟩
   ·omega
   have hr:=(h.below hbel).drop (m:=pos) (by omega) (Nat.lt_of_lt_of_le hbw hbel.size) (fun i hi=>(hbel.cell (p:=⟨b,off+i,none⟩) hbw).trans (hcell i hi))
   have hle:=h.le;have O:=Hi (zls _ _ _ _ wr hr (zcP hz pos) (by omega))
   obtain⟨x,hx⟩:∃ x,x=(oneL (l.drop pos)).1:=⟨_,rfl⟩;obtain⟨d,hd⟩:∃ d,d=(oneL (l.drop pos)).2:=⟨_,rfl⟩;rw[←hx,←hd] at O;have hdl:=zd7 (l.drop pos);rw[←hd,List.length_drop,h.len] at hdl;have hcp:¬c=pos:=by omega
   have pni:(pos:Int)<(n:Int):=by omega
   by_cases h0:d=0
   ·have hfin:=Hi (show decF f (l.drop pos)=([],0) from zbS _ _ (by rw[←hd];exact h0))
    have hbz:((d:Int)==0)=true:=by simp;omega
    have e1:=Hi (show (decZ l).1=acc from by have:=uh hA;rw[uh hfin] at this;simpa using this.symm)
    have e2:=Hi (show (decZ l).2=pos from by have:=uh hB;rw[uh hfin] at this;simpa using this.symm)
    have Hown:=Hi hown;clear hx hd h0 hcell hr hA hB hfin hown
    go_wp2_with fail
    refine (uh O).mono ?_
    rintro e w1 ⟨rfl,hb1⟩;clear O
    go_wp2
    go_ret2
    rw[uh e1,uh e2];exact⟨_,rfl,zah (uh Hown) hb1,hbel.trans (hb1.mono hbel.size)⟩
   ·have hbz:((d:Int)==0)=false:=by simp;omega
    obtain⟨f',rfl⟩:∃ f',f=f'+1:=⟨f-1,by omega⟩
    have hgo:=zdR f' (l.drop pos) (by rw[←hd];exact h0)
    rw[←hd,←hx,List.drop_drop] at hgo;have e1:=Hi (show (acc++[x])++(decF f' (l.drop (pos+d))).1=(decZ l).1 from by have:=uh hA;rw[hgo] at this;simpa using this)
    have e2:=Hi (show pos+d+(decF f' (l.drop (pos+d))).2=(decZ l).2 from by have:=uh hB;rw[hgo] at this;simp only at this;omega)
    have Hown:=Hi hown;have d1:1≤d:=by omega
    clear hx hd h0 hcell hr hA hB hgo hown
    go_wp2_with fail
    refine (uh O).mono ?_
    rintro e w1 ⟨rfl,hb1⟩;clear O;have hown1:=zah (uh Hown) hb1;have hbel1:=hbel.trans (hb1.mono hbel.size);have hcel:=ziM w1 (.int .i32 x) 21;have Hlt:=Hi hown1.lt;clear Hown hb1 hbel
    go_wp2_with (at_builtin;refine wpList_append_own _ rfl _ _ 109 rfl w.heap.size 21 i0 (.int .i32 0) 1 4 underlying109 hi hz0 hz1 hz2 rfl (by decide) _ _ _ rfl (hown1.alloc _) ⟨w1.heap.size,0,none⟩ 1 1 [.int .i32 x] rfl (by simp) hcel (by intro u hu;simp at hu;subst hu;rfl) (by unfold maxLen;omega) (by omega) (by have:=hbel1.size;simp;omega) ?_;intro v' w2 hown' hgrow _)
    go_roundw
    case rel =>
     refine⟨pos+d,f',acc++[x],by omega,by omega,by go_num,by simpa using hown',by simp;omega,e1,e2,?_⟩
     exact (hbel1.alloc hbel1.size _).grown hgrow (by have:=hbel1.size;simp;omega) (fun k hk=>(uh Hlt k hk).1)
    case measure=>simp[intOf];omega
  ·have hnil:l.drop pos=[]:=List.drop_eq_nil_of_le (by rw[h.len];omega)
   have hfin:=Hi (show decF f (l.drop pos)=([],0) from zbS _ _ (by rw[hnil];rfl))
   have e1:=Hi (show (decZ l).1=acc from by have:=uh hA;rw[uh hfin] at this;simpa using this.symm)
   have e2:=Hi (show (decZ l).2=pos from by have:=uh hB;rw[uh hfin] at this;simpa using this.symm)
   clear hnil hA hB hfin
   go_wp2
   go_ret2
   rw[uh e1,uh e2];exact⟨_,rfl,hown,hbel⟩
end mem
namespace lx
open ints (Hi uh)
open mem (Row)
open cu (Tk)
theorem zgO(a:Option Addr)(n0 c:Nat)(z:List Int)(w:World)(h:Row .u8 w a n0 c z)(hn0:n0≤1099511627776)(hz:mem.Byt z) :
  Calls prog 28 #[.slice a n0 c] w fun e w'=>∃ p cap,e = .returned (.slice (some ⟨p,0,none⟩) (toks z).length cap)∧w.heap.size≤p∧p<w'.heap.size∧(∀ i t,(toks z)[i]? = some t→dt.RowAt w' p (i * 7) t.cells)∧Below w.heap.size w w':=by
 have hD:=Hi (mem.zfj a n0 c z w h hz (by omega))
 have hn1:=Nat.le_trans (mem.zcR z hz) (mem.zc3 z hz);unfold toks;obtain⟨l,hl⟩:∃ l,l=chs z:=⟨_,rfl⟩;obtain⟨g0,hg0⟩:∃ g0:Nat,g0=(mem.decZ z).2:=⟨_,rfl⟩;have hcl:cln z=decide (g0=n0):=by unfold cln;rw[hg0,h.len]
 rw[hcl];rw[show (mem.decZ z).1=l from hl.symm,←hg0] at hD
 have hn:l.length≤1099511627776:=by
  rw[hl];unfold chs;rw[h.len] at hn1;omega
 rw[←hl];clear hl hg0 hcl hn1;obtain⟨cl,hcl⟩:∃ cl,cl=decide (g0=n0):=⟨_,rfl⟩;rw[←hcl]
 have hce:((g0:Int)==(n0:Int))=cl:=by
  rw[hcl,Bool.eq_iff_iff,beq_iff_eq,decide_eq_true_iff];omega
 clear hcl;obtain⟨n,hne⟩:∃ n,n=l.length:=⟨_,rfl⟩;rw[←hne] at hD hn;have Hne:=Hi hne;clear hne
 go_enter func28,ntmps28
 go_wp2_with fail
 refine (uh hD).mono ?_
 rintro e w1 ⟨v,rfl,hown,b1⟩;obtain⟨a1,c1,rfl,hrow⟩:=mem.zay hown;clear hD hown
 go_wp2_with fail
 refine (zlg a1 n c1 l cl w1 hrow hn).mono ?_
 rintro e w2 ⟨v2,rfl,hown2,b2⟩;obtain⟨a2,c2,rfl,hrow2⟩:=mem.zay hown2;have b12:=b1.trans (b2.mono b1.size);clear hown2
 go_wp2_with fail
 refine (mem.zfl a1 n c1 l w2 (hrow.below b2) hn).mono ?_
 rintro e w3 ⟨v3,rfl,hpl,b3⟩;have b13:=b12.trans (b3.mono b12.size);have hrow3:=hrow2.below b3;have hm:=zcy l cl;obtain⟨m,hmm⟩:∃ m,m=(lkZ l cl).length:=⟨_,rfl⟩;rw[←hmm] at hrow3 hm ⊢
 obtain⟨pb,pc,rfl,hPL⟩:∃ pb pc,v3 = .slice (some ⟨pb,0,none⟩) (n+1) pc∧PlR w3 pb (n+1) l:=by
  obtain⟨h1,h2⟩:=hpl
  rcases h2 with ⟨_,h0⟩ | ⟨g,cap,cur,rfl,hg,hh,hnc,hcm,hcs,hx⟩
  ·omega
  refine⟨g,cap,rfl,(by rcases Nat.lt_or_ge g w3.heap.size with h | h;exact h;rw[Array.getElem?_eq_none h] at hh;cases hh),fun f hf=>?_⟩
  have hc:=fun k hk=>World.ownsRow.cellAt (base:=w2.heap.size) (e:=31) (size:=2) (n:=n+1) (cap:=cap) (xs:=mem.posCells (mem.plist l (n+1))) ⟨h1,.inr ⟨g,cap,cur,rfl,hg,hh,hnc,hcm,hcs,hx⟩⟩ k hk
  rw[hc (f * 2) (by omega),hc (f * 2+1) (by omega)]
  exact zdh l (n+1) f hf
 clear hpl hrow2 hmm;have hm2:m≤1099511627778:=by have:=uh Hne;omega
 have HROW:=Hi hrow3;have HPL:=Hi hPL;clear hrow3 hPL hrow hm
 go_wp2_with fail
 go_loopg [7,8] (n+1) (fun g vs vi wr=>∃ (k:Nat) (pre:List Tk),k≤n∧n+1≤g+k∧vi = .int .i64 k∧Hid (pre++tksG l cl k=tksG l cl 0)∧Hid (wr.ownsRow w3.heap.size 77 7 vs pre.length (pre.flatMap Tk.cells))∧pre.length≤k∧Below w3.heap.size w3 wr)
 case atStart=>exact⟨0,[],Nat.zero_le _,by omega,rfl,Hi rfl,Hi (World.ownsRow_nil _ _ _ _),Nat.zero_le _,Below.refl _ _⟩
 case round =>
  obtain⟨k,pre,hk,hg,rfl,hpre,hown,hpk,hb⟩:=hrel;have HT:=Hi (zdm a2 m c2 l cl pb pc k wr ((uh HROW).below hb) (by rw[←uh Hne];exact (uh HPL).below hb) hm2 (by rw[←uh Hne];exact hn) (by rw[←uh Hne];exact hk))
  rw[←uh Hne] at HT
  go_wp2_with fail
  refine (uh HT).mono ?_
  rintro e w5 ⟨rfl,b5⟩;clear HT;have htl:=zdI l cl k (by rw[←uh Hne];exact hk)
  rw[←uh Hne] at htl;obtain⟨hfr,hto,hprog⟩:=htl;obtain⟨t,ht⟩:∃ t,t=tkG l cl k:=⟨_,rfl⟩;rw[←ht] at hfr hto hprog ⊢;have Ht:=Hi ht;clear ht;have b35:=hb.trans (b5.mono hb.size);obtain⟨it,zt,q1,q2,q3,q4,q5⟩:=infoTz;have HQ:=Hi (an q1 (an q2 (an q3 (an q4 q5))));clear q1 q2 q3 q4 q5;have hown6:=Hi (fun o=>World.ownsRow.alloc (mem.zah (uh hown) b5) o)
  have hbyt:=Hi (show (pre.length+1) * 72≤140737488355328∧pre.length+1≤maxLen from ⟨by omega,by unfold maxLen;omega⟩)
  have hsz6:=Hi (fun o=>show w3.heap.size≤(w5.alloc o).heap.size from by have:=b35.size;simp;omega)
  have hone:Hid (∀ u∈[Value.int .i64 t.k,.int .i64 t.ln,.int .i64 t.co,.int .i64 t.fr,.int .i64 t.to,.string t.tx,.string t.va],u.oneCell'=true):=Hi (by intro u hu;simp at hu;rcases hu with rfl | rfl | rfl | rfl | rfl | rfl | rfl <;> rfl)
  have HB:=Hi b35;have hne:=Hi (show u7.ownBlock≠some w5.heap.size from fun e=>by have:=((uh hown).lt _ e).2;have:=b5.size;omega)
  have Hpk:=Hi hpk;have Hk:=Hi hk;clear b35 hk hpk
  by_cases hk0:t.k=0
  ·have e0:(t.k==0)=true:=by simpa using hk0
   have Hend:=Hi (show t.k=0∨t.k=1 from .inl hk0)
   clear hk0
   go_wp2_with (first
    | (at_builtin;refine dt.zaq (by rfl) _ _ (by rfl) underlying69 (uh HQ).1 (uh HQ).2.1 (uh HQ).2.2.1 (uh HQ).2.2.2.1 (uh HQ).2.2.2.2 (by omega) w3.heap.size pre.length (pre.flatMap Tk.cells) _ (by rfl) ((uh hown6) _) [.int .i64 t.k,.int .i64 t.ln,.int .i64 t.co,.int .i64 t.fr,.int .i64 t.to,.string t.tx,.string t.va] (by rfl) (uh hone) (w5.heap.size+1) (by simp) (by rfl) (uh hbyt).1 (uh hbyt).2 ((uh hsz6) _) ?_;intro sl' w7 hr7 b7 hold7 hat7;have T7:=(hold7 w5.heap.size (by simp) (uh hne)).trans (heap_alloc_new _ _);have f0:w7.cell? ⟨w5.heap.size,0,none⟩=some (.int .i64 t.k):=(zG T7 0).trans rfl;have f4:w7.cell? ⟨w5.heap.size,4,none⟩=some (.int .i64 t.to):=(zG T7 4).trans rfl;clear T7;have R7:=Hi hr7;clear hr7;have B7:=Hi b7;clear b7 hold7 hat7))
   go_ret
   exact zbA hn (uh Hend) (uh hpre) (uh Ht) (uh R7) (b13.trans (((uh HB).alloc (uh HB).size _).mono b13.size)) (uh B7) b13.size
  by_cases hk1:t.k=1
  ·have e0:(t.k==0)=false:=by simpa using hk0
   have e1:(t.k==1)=true:=by simpa using hk1
   have Hend:=Hi (show t.k=0∨t.k=1 from .inr hk1)
   clear hk0 hk1
   go_wp2_with (first
    | (at_builtin;refine dt.zaq (by rfl) _ _ (by rfl) underlying69 (uh HQ).1 (uh HQ).2.1 (uh HQ).2.2.1 (uh HQ).2.2.2.1 (uh HQ).2.2.2.2 (by omega) w3.heap.size pre.length (pre.flatMap Tk.cells) _ (by rfl) ((uh hown6) _) [.int .i64 t.k,.int .i64 t.ln,.int .i64 t.co,.int .i64 t.fr,.int .i64 t.to,.string t.tx,.string t.va] (by rfl) (uh hone) (w5.heap.size+1) (by simp) (by rfl) (uh hbyt).1 (uh hbyt).2 ((uh hsz6) _) ?_;intro sl' w7 hr7 b7 hold7 hat7;have T7:=(hold7 w5.heap.size (by simp) (uh hne)).trans (heap_alloc_new _ _);have f0:w7.cell? ⟨w5.heap.size,0,none⟩=some (.int .i64 t.k):=(zG T7 0).trans rfl;have f4:w7.cell? ⟨w5.heap.size,4,none⟩=some (.int .i64 t.to):=(zG T7 4).trans rfl;clear T7;have R7:=Hi hr7;clear hr7;have B7:=Hi b7;clear b7 hold7 hat7))
   go_ret
   exact zbA hn (uh Hend) (uh hpre) (uh Ht) (uh R7) (b13.trans (((uh HB).alloc (uh HB).size _).mono b13.size)) (uh B7) b13.size
  ·have e0:(t.k==0)=false:=by simpa using hk0
   have e1:(t.k==1)=false:=by simpa using hk1
   have Hend:=Hi (show ¬(t.k=0∨t.k=1) from fun e=>by rcases e with e | e;exact hk0 e;exact hk1 e)
   have hto2:k<t.to:=by
    rcases hprog with e | e | e
    ·exact absurd e hk0
    ·exact absurd e hk1
    ·exact e
   clear hk0 hk1 hprog
   go_wp2_with (first
    | (at_builtin;refine dt.zaq (by rfl) _ _ (by rfl) underlying69 (uh HQ).1 (uh HQ).2.1 (uh HQ).2.2.1 (uh HQ).2.2.2.1 (uh HQ).2.2.2.2 (by omega) w3.heap.size pre.length (pre.flatMap Tk.cells) _ (by rfl) ((uh hown6) _) [.int .i64 t.k,.int .i64 t.ln,.int .i64 t.co,.int .i64 t.fr,.int .i64 t.to,.string t.tx,.string t.va] (by rfl) (uh hone) (w5.heap.size+1) (by simp) (by rfl) (uh hbyt).1 (uh hbyt).2 ((uh hsz6) _) ?_;intro sl' w7 hr7 b7 hold7 hat7;have T7:=(hold7 w5.heap.size (by simp) (uh hne)).trans (heap_alloc_new _ _);have f0:w7.cell? ⟨w5.heap.size,0,none⟩=some (.int .i64 t.k):=(zG T7 0).trans rfl;have f4:w7.cell? ⟨w5.heap.size,4,none⟩=some (.int .i64 t.to):=(zG T7 4).trans rfl;clear T7;have R7:=Hi hr7;clear hr7;have B7:=Hi b7;clear b7 hold7 hat7))
   go_roundg (gk-1)
   case rel =>
    refine⟨t.to,pre++[t],hto,by omega,rfl,Hi ?_,Hi ?_,?_,?_⟩
    ·have e:=ziw (l:=l) (i:=k) (by rw[←uh Hne];exact uh Hk) (by rw[←uh Ht];exact uh Hend)
     rw[←uh Ht] at e;rw[←uh hpre,e];simp
    ·have:=uh R7
     rw[List.flatMap_append,List.length_append]
     simpa[Tk.cells] using this
    ·have:=uh Hpk
     rw[List.length_append]
     show pre.length+1≤t.to
     omega
    ·exact ((uh HB).alloc (uh HB).size _).trans (uh B7)
   case measure=>omega
end lx
end Go.Proofs.YtepmbmbnlmbhhaaGreat
