import Derived.Test.YtepmbmbnlmbhhaaGreatPla8
set_option linter.unusedVariables false
set_option linter.unusedSimpArgs false
set_option maxHeartbeats 16000000
set_option maxRecDepth 8000
open Go.Proofs.Tryz
namespace Go.Proofs.YtepmbmbnlmbhhaaGreat
open Go.ChangeShapes Go.WideShapes Go.ChangeAt Go.RowKit
namespace sv
def whB(c:Int):Bool:=c==9 || c==32
def soB(c:Int):Bool:=c==9 || c==10 || c==13 || (decide (32≤c) && decide (c≤55295)) || (decide (57344≤c) && decide (c≤65535))
def ind(l:List Int):Nat:=(l.takeWhile whB).length
def blk(l:List Int):Bool:=l.all whB
def pre(c:Int):List (List Int)→List (List Int)
 | []=>[[c]]
 | x::xs=>(c::x)::xs
def lns:List Int→List (List Int)
 | []=>[[]]
 | c::r=>if c=10 then []::lns r else if c=13 then (if r.head? = some 10 then lns r else []::lns r) else pre c (lns r)
def jn:List (List Int)→List Int
 | []=>[]
 | [x]=>x
 | x::y::r=>x++10::jn (y::r)
def flat(x:List Int):Prop:=∀ c∈x,c≠10∧c≠13
theorem zb8{c:Int}{x:List Int}(h:flat (c::x)):flat x:=fun d hd=>h d (List.mem_cons_of_mem _ hd)
theorem zmV(c:Int)(L:List (List Int)):pre c L≠[]:=by cases L <;> simp[pre]
theorem zfT:∀ l,lns l≠[]
 | []=>by simp[lns]
 | c::r=>by
  rw[lns]
  split
  ·simp
  ·split
   ·split
    ·exact zfT r
    ·simp
   ·exact zmV _ _
theorem zhz:∀ (x r:List Int),flat x→lns (x++10::r)=x::lns r
 | [],r,_=>by simp[lns]
 | c::x,r,h=>by
  have hc:=h c (by simp)
  rw[List.cons_append,lns,if_neg hc.1,if_neg hc.2,zhz x r (zb8 h)];rfl
theorem zhA:∀ (x:List Int),flat x→lns x=[x]
 | [],_=>rfl
 | c::x,h=>by
  have hc:=h c (by simp)
  rw[lns,if_neg hc.1,if_neg hc.2,zhA x (zb8 h)];rfl
def esc4(l:List Int):Bool:=l.take 4==[92,34,34,34]
def tri(l:List Int):Bool:=l.take 3==[34,34,34]
def opn(l:List Int):List Int:=
 match l with
 | []=>[]
 | c::r=>if esc4 (c::r) then 34::34::34::opn (r.drop 3) else c::opn r
termination_by l.length
decreasing_by all_goals (simp;try omega)
theorem zbw:opn []=[]:=by rw[opn]
theorem zb0{c:Int}{r:List Int}(h:esc4 (c::r)=true):opn (c::r)=34::34::34::opn (r.drop 3):=by rw[opn,if_pos h]
theorem zdg{c:Int}{r:List Int}(h:esc4 (c::r)=false):opn (c::r)=c::opn r:=by rw[opn,if_neg (by simp[h])]
theorem zgh{l:List Int}(h:tri l=true):∃ r,l=34::34::34::r:=by
 match l,h with
 | a::b::c::r,h =>
  simp[tri] at h;obtain⟨rfl,rfl,rfl⟩:=h;exact⟨r,rfl⟩
 | [],h=>simp[tri] at h
 | [_],h=>simp[tri] at h
 | [_,_],h=>simp[tri] at h
theorem za8{l:List Int}(h:esc4 l=true):∃ r,l=92::34::34::34::r:=by
 match l,h with
 | a::b::c::d::r,h =>
  simp[esc4] at h;obtain⟨rfl,rfl,rfl,rfl⟩:=h;exact⟨r,rfl⟩
 | [],h=>simp[esc4] at h
 | [_],h=>simp[esc4] at h
 | [_,_],h=>simp[esc4] at h
 | [_,_,_],h=>simp[esc4] at h
theorem zdX(c:Int)(l:List Int):esc4 (c::l)=(c==92 && tri l):=by
 unfold esc4 tri;rw[List.take_succ_cons]
 cases h:(c==92) <;> simp_all
theorem zhW:∀ (n:Nat) (l:List Int),l.length≤n→∀ c∈opn l,c∈l
 | _,[],_,c,h=>by rw[zbw] at h;exact h
 | 0,d::r,hl,_,_=>by simp at hl
 | n+1,d::r,hl,c,h=>by
  cases he:esc4 (d::r)
  ·rw[zdg he] at h
   rcases List.mem_cons.1 h with rfl | h2
   ·simp
   ·exact List.mem_cons_of_mem _ (zhW n r (by simp at hl;omega) c h2)
  ·rw[zb0 he] at h
   obtain⟨x,hx⟩:=za8 he
   injection hx with h1 h2
   have ih:=zhW n (r.drop 3) (by simp at hl ⊢;omega)
   simp only[List.mem_cons] at h
   rcases h with rfl | rfl | rfl | h
   ·rw[h2];simp
   ·rw[h2];simp
   ·rw[h2];simp
   ·exact List.mem_cons_of_mem _ (List.mem_of_mem_drop (ih c h))
def std(l:List Int)(q:Nat)(last:Int):Bool:=
 match l with
 | []=>!(last==34) && !(last==92)
 | c::r=>soB c && if esc4 (c::r) then std (r.drop 3) 0 0 else if (if c=34 then q+1 else 0)=3 then false else std r (if c=34 then q+1 else 0) c
termination_by l.length
decreasing_by all_goals (simp;try omega)
theorem zfo(q:Nat)(last:Int):std [] q last=(!(last==34) && !(last==92)):=by rw[std]
theorem zeg{c:Int}{r:List Int}(q:Nat)(last:Int)(h:esc4 (c::r)=true):std (c::r) q last=std (r.drop 3) 0 0:=by
 rw[std,if_pos h];obtain⟨x,hx⟩:=za8 h
 injection hx with h1 h2
 rw[h1];rfl
theorem zga{c:Int}{r:List Int}(q:Nat)(last:Int)(h:esc4 (c::r)=false)(hc:c≠34):std (c::r) q last=(soB c && std r 0 c):=by
 rw[std,if_neg (by simp[h]),if_neg hc,if_neg (by decide)]
theorem zbP{r:List Int}(q:Nat)(last:Int):std (34::r) q last=(if q=2 then false else std r (q+1) 34):=by
 rw[std,if_neg (by rw[zdX];simp),if_pos rfl]
 have:soB 34=true:=by decide
 rw[this,Bool.true_and]
 by_cases h:q=2
 ·rw[if_pos h,if_pos (by omega)]
 ·rw[if_neg h,if_neg (by omega)]
theorem zgb:∀ (n:Nat) (l:List Int) (q:Nat) (last:Int),l.length≤n→std l q last=true→∀ c∈l,soB c=true
 | _,[],_,_,_,_,c,hc=>by cases hc
 | 0,d::r,_,_,h,_,_,_=>by simp at h
 | n+1,d::r,q,last,h,hs,c,hc=>by
  cases he:esc4 (d::r)
  ·by_cases h34:d=34
   ·subst h34
    rw[zbP] at hs
    split at hs
    ·cases hs
    ·rcases List.mem_cons.1 hc with rfl | h2
     ·decide
     ·exact zgb n r _ _ (by simp at h;omega) hs c h2
   ·rw[zga q last he h34,Bool.and_eq_true] at hs
    rcases List.mem_cons.1 hc with rfl | h2
    ·exact hs.1
    ·exact zgb n r _ _ (by simp at h;omega) hs.2 c h2
  ·rw[zeg q last he] at hs
   obtain⟨x,hx⟩:=za8 he;rw[hx] at hc
   injection hx with h1 h2
   rw[h2] at hs h;have ih:=zgb n x 0 0 (by simp at h;omega) hs
   simp only[List.mem_cons] at hc
   rcases hc with rfl | rfl | rfl | rfl | hc
   ·decide
   ·decide
   ·decide
   ·decide
   ·exact ih c hc
open mem
theorem zkj:∀ (x r:List Int),flat x→r.head? ≠ some 10→lns (x++13::r)=x::lns r
 | [],r,_,h=>by simp[lns,h]
 | c::x,r,h,hr=>by
  have hc:=h c (by simp)
  rw[List.cons_append,lns,if_neg hc.1,if_neg hc.2,zkj x r (zb8 h) hr];rfl
theorem zfS:∀ (x r:List Int),flat x→lns (x++13::10::r)=x::lns r
 | [],r,_=>by simp[lns]
 | c::x,r,h=>by
  have hc:=h c (by simp)
  rw[List.cons_append,lns,if_neg hc.1,if_neg hc.2,zfS x r (zb8 h)];rfl
theorem noEnd(l:List Int)(k:Nat):∀ j,(linesTo l k).2≤j→j<k→enB l j=false:=by
 induction k with
 | zero=>intro j _ h;omega
 | succ k ih =>
  intro j h1 h2;rw[linesTo] at h1
  cases he:enB l k
  ·rw[he] at h1
   simp only[Bool.false_eq_true,if_false] at h1
   by_cases e:j=k
   ·rw[e];exact he
   ·exact ih j h1 (by omega)
  ·rw[he] at h1
   simp only[if_true] at h1;omega
theorem zli{l:List Int}{a b:Nat}{c:Int}(h:c∈cut l a b):∃ j,a≤j∧j<b∧j<l.length∧l.getD j 0=c:=by
 obtain⟨i,hi,e⟩:=List.mem_iff_getElem.1 h;have hi2:i<b-a∧a+i<l.length:=by simp[cut] at hi;omega
 refine⟨a+i,by omega,by omega,hi2.2,?_⟩
 rw[←e];simp[cut,List.getD,hi2.2]
theorem zfB(l:List Int)(k:Nat)(hk:k≤l.length):flat (cut l (linesTo l k).2 (toOf l k)):=by
 intro c hc;obtain⟨j,h1,h2,h3,h4⟩:=zli hc;have hft:=zc8 l k;have hn:=noEnd l k j h1 (by omega)
 unfold enB at hn;rw[h4] at hn;simp only[Bool.or_eq_false_iff,Bool.and_eq_false_iff,beq_eq_false_iff_ne,Bool.not_eq_false'] at hn;refine⟨hn.1,?_⟩
 rcases hn.2 with h5 | h5
 ·exact h5
 ·exfalso
  have h6:=h5;simp only[prB,Bool.and_eq_true,decide_eq_true_eq,beq_iff_eq] at h6
  by_cases e:j+1=k
  ·have:toOf l k=k-1:=by
    unfold toOf;have:k-1=j:=by omega
    rw[this,if_pos ⟨by omega,h5⟩]
   omega
  ·have hn2:=noEnd l k (j+1) (by omega) (by omega)
   unfold enB at hn2;rw[h6.2] at hn2;simp at hn2
theorem zi1(l:List Int)(a b:Nat)(h:a≤b):l.drop a=cut l a b++l.drop b:=by
 unfold cut
 conv=>lhs;rw[←List.take_append_drop (b-a) (l.drop a)]
 rw[List.drop_drop]
 congr 2
 omega
theorem zct{l:List Int}{k:Nat}(h:k<l.length):l.drop k=l.getD k 0::l.drop (k+1):=by
 rw[List.drop_eq_getElem_cons h];simp[List.getD,h]
theorem zkl(l:List Int):∀ k,k≤l.length→lns l=(linesTo l k).1++lns (l.drop (linesTo l k).2)
 | 0,_=>by simp[linesTo]
 | k+1,h=>by
  have ih:=zkl l k (by omega)
  have hcf:=zfB l k (by omega)
  have hft:=zc8 l k;rw[linesTo]
  cases he:enB l k
  ·simpa using ih
  ·simp only[if_true]
   rw[ih,List.append_assoc,List.singleton_append]
   congr 1
   rw[zi1 l _ _ hft.1]
   by_cases hp:1≤k∧prB l (k-1)=true
   ·have ht:toOf l k=k-1:=by unfold toOf;rw[if_pos hp]
    have hp2:=hp.2;simp only[prB,Bool.and_eq_true,decide_eq_true_eq,beq_iff_eq] at hp2;have hk1:k-1+1=k:=by omega
    rw[hk1] at hp2;have e1:l.drop (toOf l k)=13::10::l.drop (k+1):=by rw[ht,zct (by omega),hk1,zct (by omega),hp2.1.2,hp2.2]
    rw[e1,zfS _ _ hcf]
   ·have ht:toOf l k=k:=by unfold toOf;rw[if_neg hp]
    have e1:l.drop (toOf l k)=l.getD k 0::l.drop (k+1):=by rw[ht,zct (by omega)]
    rw[e1];have he2:=he;unfold enB at he2;simp only[Bool.or_eq_true,Bool.and_eq_true,beq_iff_eq,Bool.not_eq_true'] at he2
    rcases he2 with h5 | ⟨h5,h6⟩
    ·rw[h5,zhz _ _ hcf]
    ·rw[h5,zkj _ _ hcf]
     intro h7;rw[←Bool.not_eq_true] at h6
     apply h6
     have hlt:k+1<l.length:=by
      by_cases h8:k+1<l.length
      ·exact h8
      ·rw[List.drop_eq_nil_of_le (by omega)] at h7;cases h7
     simp only[prB,Bool.and_eq_true,decide_eq_true_eq,beq_iff_eq];refine⟨⟨hlt,h5⟩,?_⟩
     rw[zct hlt] at h7
     simpa using h7
theorem zeD(l:List Int):linesL l=lns l:=by
 rw[zkl l l.length (lr _)];unfold linesL
 congr 1
 have h:=zfB l l.length (lr _);have hft:=zc8 l l.length
 have ht:toOf l l.length=l.length:=by
  unfold toOf;rw[if_neg];rintro ⟨h1,h2⟩;simp only[prB,Bool.and_eq_true,decide_eq_true_eq] at h2;omega
 rw[ht] at h
 have e:cut l (linesTo l l.length).2 l.length=l.drop (linesTo l l.length).2:=by
  unfold cut;exact List.take_of_length_le (by simp)
 rw[e] at h;rw[zhA _ h]
def lst:List (List Int)→Option Nat
 | []=>none
 | x::L=>if blk x then lst L else some (match lst L with | none=>ind x | some m=>min (ind x) m)
def cmn(L:List (List Int)):Nat:=(lst (L.drop 1)).getD 0
def cutL(n:Nat):List (List Int)→List (List Int)
 | []=>[]
 | x::L=>x::L.map (List.drop n)
def trm(L:List (List Int)):List (List Int):=((L.dropWhile blk).reverse.dropWhile blk).reverse
def ddt(L:List (List Int)):List (List Int):=trm (cutL (cmn L) L)
def pos(L:List (List Int)):Bool:=match L with
 | []=>false
 | x::r=>!blk x && !blk ((x::r).getLastD []) && ((x::r).any (fun l=>ind l==0 && !blk l) || r.isEmpty)
theorem zdy(l:List Int):ind l≤l.length:=by
 unfold ind;exact (List.takeWhile_prefix whB).length_le
theorem zco(l:List Int):blk l=(ind l==l.length):=by
 induction l with
 | nil=>rfl
 | cons c r ih =>
  unfold blk ind at ih ⊢;rw[List.all_cons,List.takeWhile_cons]
  cases h:whB c
  ·simp
  ·simp[ih]
theorem ind0{c:Int}{r:List Int}(h:whB c=false):ind (c::r)=0:=by unfold ind;rw[List.takeWhile_cons,h];rfl
theorem zfP:∀ (l:List Int) (n:Nat),n≤ind l→ind (l.drop n)=ind l-n
 | l,0,_=>by simp
 | [],n+1,h=>by simp[ind] at h
 | c::r,n+1,h=>by
  cases hc:whB c
  ·rw[ind0 hc] at h;omega
  ·have e:ind (c::r)=ind r+1:=by unfold ind;rw[List.takeWhile_cons,hc];simp
   rw[e] at h ⊢;rw[List.drop_succ_cons,zfP r n (by omega)]
   omega
theorem ziF(l:List Int)(n:Nat)(h:n≤ind l):blk (l.drop n)=blk l:=by
 rw[zco,zco,zfP l n h,List.length_drop];have:=zdy l;rw[Bool.eq_iff_iff,beq_iff_eq,beq_iff_eq];omega
theorem zaY(l:List Int)(n:Nat)(h:blk l=true):blk (l.drop n)=true:=by
 unfold blk at h ⊢;rw[List.all_eq_true] at h ⊢;exact fun c hc=>h c (List.mem_of_mem_drop hc)
theorem zjl{L:List (List Int)}(h:lst L=none):∀ x∈L,blk x=true:=by
 induction L with
 | nil=>intro x hx;cases hx
 | cons y L ih =>
  rw[lst] at h
  cases hb:blk y
  ·rw[hb] at h;simp at h
  ·rw[hb,if_pos rfl] at h
   intro x hx
   rcases List.mem_cons.1 hx with rfl | h2
   ·exact hb
   ·exact ih h x h2
theorem zd5{L:List (List Int)}{m:Nat}(h:lst L=some m):(∃ x∈L,blk x=false∧ind x=m)∧∀ x∈L,blk x=false→m≤ind x:=by
 induction L generalizing m with
 | nil=>cases h
 | cons y L ih =>
  rw[lst] at h
  cases hb:blk y
  ·rw[hb] at h
   simp only[Bool.false_eq_true,if_false,Option.some.injEq] at h
   cases hL:lst L with
   | none =>
    rw[hL] at h;simp only at h;refine⟨⟨y,by simp,hb,h⟩,fun x hx hx2=>?_⟩
    rcases List.mem_cons.1 hx with rfl | h2
    ·omega
    ·rw[zjl hL x h2] at hx2;cases hx2
   | some k =>
    rw[hL] at h;simp only at h;obtain⟨⟨z,hz,hz2,hz3⟩,h4⟩:=ih hL;refine⟨?_,fun x hx hx2=>?_⟩
    ·by_cases hle:ind y≤k
     ·exact⟨y,by simp,hb,by omega⟩
     ·exact⟨z,by simp[hz],hz2,by omega⟩
    ·rcases List.mem_cons.1 hx with rfl | h2
     ·omega
     ·have:=h4 x h2 hx2;omega
  ·rw[hb,if_pos rfl] at h
   obtain⟨⟨z,hz,hz2,hz3⟩,h4⟩:=ih h;refine⟨⟨z,by simp[hz],hz2,hz3⟩,fun x hx hx2=>?_⟩
   rcases List.mem_cons.1 hx with rfl | h2
   ·rw[hb] at hx2;cases hx2
   ·exact h4 x h2 hx2
theorem za4{α:Type}{p:α→Bool}:∀ {l:List α},(∀ x∈l,p x=true)→l.dropWhile p=[]
 | [],_=>rfl
 | x::l,h=>by rw[List.dropWhile_cons,h x (by simp),if_pos rfl];exact za4 (fun y hy=>h y (by simp[hy]))
theorem zbr{α:Type}{p:α→Bool}:∀ {a b:List α},(∀ x∈a,p x=true)→(a++b).dropWhile p=b.dropWhile p
 | [],b,_=>rfl
 | x::a,b,h=>by rw[List.cons_append,List.dropWhile_cons,h x (by simp),if_pos rfl];exact zbr (fun y hy=>h y (by simp[hy]))
theorem zcL{α:Type}{p:α→Bool}{x:α}{l:List α}(h:p x=false):(x::l).dropWhile p=x::l:=by rw[List.dropWhile_cons,h];rfl
theorem zbf{α:Type}{p:α→Bool}:∀ {l:List α} {x:α} {r:List α},l.dropWhile p=x::r→p x=false
 | [],x,r,h=>by cases h
 | y::l,x,r,h=>by
  rw[List.dropWhile_cons] at h
  cases hy:p y
  ·rw[hy] at h
   simp only[Bool.false_eq_true,if_false,List.cons.injEq] at h;rw[←h.1];exact hy
  ·rw[hy,if_pos rfl] at h
   exact zbf h
theorem zbs{α:Type}{p:α→Bool}{x:α}:∀ {l:List α},x∈l→p x=false→x∈l.dropWhile p
 | [],h,_=>by cases h
 | y::l,h,hp=>by
  rw[List.dropWhile_cons]
  cases hy:p y
  ·simpa using h
  ·rw[if_pos rfl]
   rcases List.mem_cons.1 h with rfl | h2
   ·rw[hy] at hp;cases hp
   ·exact zbs h2 hp
theorem zlZ{L:List (List Int)}{x:List Int}(h:x∈L)(hb:blk x=false):x∈trm L:=by
 unfold trm;rw[List.mem_reverse];exact zbs (by rw[List.mem_reverse];exact zbs h hb) hb
theorem zfs{A B M:List (List Int)}(hA:∀ x∈A,blk x=true)(hB:∀ x∈B,blk x=true)(h1:∃ x r,M=x::r∧blk x=false)(h2:∃ x r,M=r++[x]∧blk x=false):trm (A++M++B)=M:=by
 unfold trm;rw[List.append_assoc,zbr hA];obtain⟨x,r,e,hx⟩:=h1;have e1:(M++B).dropWhile blk=M++B:=by rw[e,List.cons_append,zcL hx]
 rw[e1,List.reverse_append,zbr (fun y hy=>hB y (by simpa using hy))]
 obtain⟨y,s,e2,hy⟩:=h2;rw[e2,List.reverse_append,List.reverse_singleton,List.singleton_append,zcL hy];simp
theorem zgi(L:List (List Int)):(trm L=[]∧∀ x∈L,blk x=true)∨∃ A B,L=A++trm L++B∧(∀ x∈A,blk x=true)∧(∀ x∈B,blk x=true)∧(∃ x r,trm L=x::r∧blk x=false)∧(∃ x r,trm L=r++[x]∧blk x=false):=by
 by_cases h:∃ x∈L,blk x=false
 ·right
  have hA:∀ (K:List (List Int)),∃ A,K=A++K.dropWhile blk∧∀ x∈A,blk x=true:=fun K=>⟨K.takeWhile blk,(List.takeWhile_append_dropWhile).symm,fun x hx=>by
   have:=List.all_takeWhile (l:=K) (p:=blk);rw[List.all_eq_true] at this
   exact this x hx⟩
  obtain⟨A,hA1,hA2⟩:=hA L;obtain⟨B,hB1,hB2⟩:=hA (L.dropWhile blk).reverse
  have hm:L.dropWhile blk=trm L++B.reverse:=by
   have:=congrArg List.reverse hB1;rw[List.reverse_reverse,List.reverse_append] at this;exact this
  obtain⟨x,hx,hx2⟩:=h;have hx3:=zlZ hx hx2;refine⟨A,B.reverse,?_,hA2,fun y hy=>hB2 y (by simpa using hy),?_,?_⟩
  ·rw[List.append_assoc,←hm];exact hA1
  ·cases ht:trm L with
   | nil=>rw[ht] at hx3;cases hx3
   | cons y r =>
    rw[ht,List.cons_append] at hm;exact⟨y,r,rfl,zbf hm⟩
  ·unfold trm at hx3 ⊢
   cases ht:(L.dropWhile blk).reverse.dropWhile blk with
   | nil=>rw[ht] at hx3;cases hx3
   | cons y r=>exact⟨y,r.reverse,by simp,zbf ht⟩
 ·left
  have h2:∀ x∈L,blk x=true:=fun x hx=>by
   cases hb:blk x
   ·exact absurd ⟨x,hx,hb⟩ h
   ·rfl
  refine⟨?_,h2⟩
  unfold trm;rw[za4 h2];rfl
open ints (Hi uh soP)
theorem zhk(l:List Int)(h:∀ j,j<l.length→whB (l.getD j 0)=true):ind l=l.length:=by
 have hb:blk l=true:=by
  unfold blk;rw[List.all_eq_true];intro x hx;obtain⟨i,hi,rfl⟩:=List.mem_iff_getElem.1 hx;have:=h i hi
  simpa[List.getD,hi] using this
 rw[zco] at hb;exact beq_iff_eq.1 hb
theorem zd1:∀ (l:List Int) (k:Nat),k<l.length→(∀ j,j<k→whB (l.getD j 0)=true)→whB (l.getD k 0)=false→ind l=k
 | [],k,h,_,_=>by simp at h
 | c::r,0,_,_,h=>ind0 (by simpa using h)
 | c::r,k+1,h,h1,h2=>by
  have hc:whB c=true:=by simpa using h1 0 (by omega)
  have e:ind (c::r)=ind r+1:=by unfold ind;rw[List.takeWhile_cons,hc];simp
  rw[e,zd1 r k (by simp at h;omega) (fun j hj=>by simpa using h1 (j+1) (by omega)) (by simpa using h2)]
theorem zeA(a:Option Addr)(n c:Nat)(l:List Int)(w:World)(h:Row .i32 w a n c l)(hn:n≤9223372036854775806) :
  Calls prog 186 #[.slice a n c] w fun e w'=>e = .returned (.int .i64 (ind l:Nat))∧w'=w:=by
 have HL:=Hi h.len
 go_enter func186,ntmps186
 go_wp2
 go_loopw [7] (fun i wr=>∃ k:Nat,k≤n∧i = .int .i64 k∧wr=w∧Hid (∀ j,j<k→whB (l.getD j 0)=true)) (fun i _=>n-(intOf i).toNat)
 case atStart=>exact⟨0,Nat.zero_le _,rfl,rfl,Hi (fun j hj=>by omega)⟩
 case round =>
  obtain⟨k,hk,rfl,rfl,hw⟩:=hrel
  by_cases hlt:k<n
  ·rcases h.at_ with h0 | ⟨b,off,rfl,hbw,hcell⟩
   ·omega
   have c1:=hcell k hlt;obtain⟨x,hx⟩:∃ x,x=l.getD k 0:=⟨_,rfl⟩;rw[←hx] at c1;have Hx:=Hi hx;clear hx hcell
   by_cases h9:x=9
   ·subst h9
    go_wp2
    refine⟨⟨k+1,by omega,rfl,trivial,Hi (fun j hj=>?_)⟩,by simp only[intOf];omega⟩
    by_cases e:j=k
    ·subst e;rw[←uh Hx];rfl
    ·exact uh hw j (by omega)
   ·by_cases h32:x=32
    ·subst h32
     go_wp2
     refine⟨⟨k+1,by omega,rfl,trivial,Hi (fun j hj=>?_)⟩,by simp only[intOf];omega⟩
     by_cases e:j=k
     ·subst e;rw[←uh Hx];rfl
     ·exact uh hw j (by omega)
    ·have b9:(x != 9)=true:=by simp[h9]
     have b32:(x != 32)=true:=by simp[h32]
     go_wp2
     go_ret
     have e:ind l=k:=zd1 l k (by rw[uh HL];exact hlt) (uh hw) (by rw[←uh Hx];simp[whB,h9,h32])
     rw[e];exact⟨rfl,rfl⟩
  ·obtain rfl:k=n:=by omega
   go_wp2
   go_ret
   have e:ind l=k:=by rw[zhk l (fun j hj=>uh hw j (by rw[←uh HL];exact hj)),uh HL]
   rw[e];exact⟨rfl,rfl⟩
theorem zbp(a:Option Addr)(n c:Nat)(l:List Int)(w:World)(h:Row .i32 w a n c l)(hn:n≤9223372036854775806) :
  Calls prog 173 #[.slice a n c] w fun e w'=>e = .returned (.bool (blk l))∧w'=w:=by
 have I:=Hi (fun W (hW:Row .i32 W a n c l)=>zeA a n c l W hW hn)
 have e:blk l=(((ind l:Nat):Int)==(n:Int)):=by
  rw[zco,h.len,Bool.eq_iff_iff,beq_iff_eq,beq_iff_eq];omega
 rw[e];obtain⟨m,hm⟩:∃ m,m=ind l:=⟨_,rfl⟩;rw[←hm] at I ⊢;clear e hm
 go_enter func173,ntmps173
 go_wp2_with fail
 refine (uh I _ h).mono ?_
 rintro e w1 ⟨rfl,rfl⟩;clear I
 go_wp2
 go_ret
 exact⟨rfl,rfl⟩
structure Lns (w:World) (b off n c:Nat) (L:List (List Int)):Prop where
 len:L.length=n
 le:n≤c
 lt:b<w.heap.size
 at_:∀ i,i<n→∃ ai ci,w.cell? ⟨b,off+i,none⟩=some (.slice ai (L.getD i []).length ci)∧Row .i32 w ai (L.getD i []).length ci (L.getD i [])∧∃ bi oi,ai=some ⟨bi,oi,none⟩
theorem Lns.below{w w':World}{b off n c:Nat}{L:List (List Int)}(h:Lns w b off n c L)(hb:Below w.heap.size w w'):Lns w' b off n c L:=
 ⟨h.len,h.le,Nat.lt_of_lt_of_le h.lt hb.size,fun i hi=>by
  obtain⟨ai,ci,h1,h2,h3⟩:=h.at_ i hi
  exact⟨ai,ci,(hb.cell (p:=⟨b,off+i,none⟩) h.lt).trans h1,h2.below hb,h3⟩⟩
theorem zkk{w:World}{base:Nat}{v:Value}{gs:List Nat}{L:List (List Int)}(h:LinesAt w base v gs L)(hn:0<L.length):∃ b c,v = .slice (some ⟨b,0,none⟩) L.length c∧Lns w b 0 L.length c L:=by
 obtain⟨h1,h2⟩:=h.own
 rcases h2 with ⟨_,h0⟩ | ⟨g,cap,cur,rfl,hg,hh,hnc,hcm,hcs,hx⟩
 ·omega
 refine⟨g,cap,rfl,rfl,hnc,(by rcases Nat.lt_or_ge g w.heap.size with h | h;exact h;rw[Array.getElem?_eq_none h] at hh;cases hh),fun i hi=>?_⟩
 have hr:=zay (h.each i hi);obtain⟨a,cp,e,hrow⟩:=hr;refine⟨a,cp,?_,hrow,⟨_,_,by simp only[lineVal,Value.slice.injEq] at e;exact e.1.symm⟩⟩
 rw[Nat.zero_add];rw[World.ownsRow.cellAt (base:=base) (e:=109) (size:=1) (n:=L.length) (cap:=cap) (xs:=List.zipWith lineVal gs L) ⟨h1,.inr ⟨g,cap,cur,rfl,hg,hh,hnc,hcm,hcs,hx⟩⟩ _ (by omega)]
 rw[←e];have hl:i<gs.length:=by rw[h.len];exact hi
 rw[List.getElem?_zipWith]
 simp[List.getD,hi,hl]
theorem zjm(L:List (List Int))(x:List Int):lst (L++[x])=if blk x then lst L else some (match lst L with | none=>ind x | some m=>min (ind x) m):=by
 induction L with
 | nil=>simp[lst]
 | cons y L ih =>
  rw[List.cons_append,lst,ih]
  cases hx:blk x
  ·cases hy:blk y
   ·simp only[Bool.false_eq_true,if_false]
    rw[lst,hy]
    cases lst L with
    | none=>simp[Nat.min_comm]
    | some m=>simp;omega
   ·simp only[Bool.false_eq_true,if_false,if_true]
    rw[lst,hy,if_pos rfl]
  ·cases hy:blk y
   ·simp only[Bool.false_eq_true,if_false,if_true]
    rw[lst,hy];simp
   ·simp only[if_true]
    rw[lst,hy,if_pos rfl]
def lsI(L:List (List Int)):Int:=match lst L with | none=>-1 | some m=>m
theorem zfU(L:List (List Int))(x:List Int):lsI (L++[x])=if (ind x:Int)<(x.length:Int)∧(lsI L<0∨(ind x:Int)<lsI L) then (ind x:Int) else lsI L:=by
 have hb:=zco x;have hle:=zdy x;unfold lsI;rw[zjm]
 cases hx:blk x
 ·rw[hx] at hb
  have hlt:ind x<x.length:=by
   have:¬ind x=x.length:=fun e=>by rw[e] at hb;simp at hb
   omega
  cases lst L with
  | none=>simp only[Bool.false_eq_true,if_false];rw[if_pos (by omega)]
  | some m =>
   simp only[Bool.false_eq_true,if_false]
   by_cases h:ind x<m
   ·rw[if_pos (by omega)];omega
   ·rw[if_neg (by omega)];omega
 ·rw[hx] at hb
  have e:ind x=x.length:=beq_iff_eq.1 hb.symm;simp only[if_true];rw[if_neg (by omega)]
theorem zcI(L:List (List Int))(k:Nat)(h:k<L.length):L.take (k+1)=L.take k++[L.getD k []]:=by
 rw[List.take_add_one];simp[List.getD,h]
theorem zjk(L:List (List Int))(k:Nat)(h:k<L.length):lsI (L.take (k+1))=if (ind (L.getD k []):Int)<((L.getD k []).length:Int)∧(lsI (L.take k)<0∨(ind (L.getD k []):Int)<lsI (L.take k)) then (ind (L.getD k []):Int) else lsI (L.take k):=by
 rw[zcI L k h];exact zfU _ _
theorem zhC(L:List (List Int)):-1≤lsI L:=by
 unfold lsI
 cases lst L <;> simp only <;> omega
theorem zfR(b off n c:Nat)(L:List (List Int))(w:World)(h:Lns w b off n c L)(hn:n≤9223372036854775806)(hm:∀ i,(L.getD i []).length≤1099511627776) :
  Calls prog 187 #[.slice (some ⟨b,off,none⟩) n c] w fun e w'=>e = .returned (.int .i64 (max (lsI L) 0))∧Below w.heap.size w w':=by
 have HL:=Hi h.len
 go_enter func187,ntmps187
 go_wp2
 go_loopw [3,9] (fun t i wr=>∃ k:Nat,k≤n∧i = .int .i64 k∧t = .int .i64 (lsI (L.take k))∧Below w.heap.size w wr) (fun _ i _=>n-(intOf i).toNat)
 case atStart=>exact⟨0,Nat.zero_le _,rfl,rfl,Below.refl _ _⟩
 case round =>
  obtain⟨k,hk,rfl,rfl,hb⟩:=hrel
  by_cases hlt:k<n
  ·obtain⟨ai,ci,h1,h2,_⟩:=(h.below hb).at_ k hlt
   have I:=Hi (fun W (hW:Row .i32 W ai (L.getD k []).length ci (L.getD k []))=>zeA ai _ ci _ W hW (by have:=hm k;omega))
   have hsn:=Hi (zjk L k (by rw[uh HL];exact hlt))
   have hge:=zhC (L.take k);have hmk:=hm k;have H2:=Hi h2;obtain⟨x,hx⟩:∃ x,x=L.getD k []:=⟨_,rfl⟩;rw[←hx] at h1 I hsn hmk H2;obtain⟨T,hT⟩:∃ T,T=lsI (L.take k):=⟨_,rfl⟩;rw[←hT] at hsn hge ⊢;have hil:=zdy x;obtain⟨m,hm2⟩:∃ m,m=ind x:=⟨_,rfl⟩;rw[←hm2] at I hsn hil;obtain⟨q,hq⟩:∃ q,q=x.length:=⟨_,rfl⟩;rw[←hq] at h1 I hsn hmk hil H2;clear hx hT hm2 hq h2 hm
   have hle:=h.le;have HB:=Hi hb
   by_cases c1:(m:Int)<(q:Int)
   ·by_cases c2:T<0
    ·have e:=Hi (show lsI (L.take (k+1))=(m:Int) by rw[uh hsn,if_pos ⟨c1,.inl c2⟩])
     go_wp2_with fail
     refine (uh I _ (uh H2)).mono ?_
     rintro e w1 ⟨rfl,rfl⟩
     go_wp2
     refine⟨⟨k+1,by omega,rfl,by rw[uh e],uh HB⟩,by simp only[intOf];omega⟩
    ·by_cases c3:(m:Int)<T
     ·have e:=Hi (show lsI (L.take (k+1))=(m:Int) by rw[uh hsn,if_pos ⟨c1,.inr c3⟩])
      go_wp2_with fail
      refine (uh I _ (uh H2)).mono ?_
      rintro e w1 ⟨rfl,rfl⟩
      go_wp2
      refine⟨⟨k+1,by omega,rfl,by rw[uh e],uh HB⟩,by simp only[intOf];omega⟩
     ·have e:=Hi (show lsI (L.take (k+1))=T by rw[uh hsn,if_neg (by omega)])
      go_wp2_with fail
      refine (uh I _ (uh H2)).mono ?_
      rintro e w1 ⟨rfl,rfl⟩
      go_wp2
      refine⟨⟨k+1,by omega,rfl,by rw[uh e],uh HB⟩,by simp only[intOf];omega⟩
   ·have e:=Hi (show lsI (L.take (k+1))=T by rw[uh hsn,if_neg (by omega)])
    go_wp2_with fail
    refine (uh I _ (uh H2)).mono ?_
    rintro e w1 ⟨rfl,rfl⟩
    go_wp2
    refine⟨⟨k+1,by omega,rfl,by rw[uh e],uh HB⟩,by simp only[intOf];omega⟩
  ·obtain rfl:k=n:=by omega
   have e:L.take k=L:=List.take_of_length_le (by rw[uh HL];omega)
   rw[e];have hge:=zhC L;obtain⟨T,hT⟩:∃ T,T=lsI L:=⟨_,rfl⟩;rw[←hT] at hge ⊢;have HT:=Hi hT;clear hT;have HB:=Hi hb
   by_cases c0:T<0
   ·have e2:=Hi (show max T 0=0 by omega)
    go_wp2
    go_ret
    rw[←uh HT,uh e2];exact⟨rfl,uh HB⟩
   ·have e2:=Hi (show max T 0=T by omega)
    go_wp2
    go_ret
    rw[←uh HT,uh e2];exact⟨rfl,uh HB⟩
end sv
namespace lx
open ints (Hi uh hexV)
open mem
def endB(l:List Int):Nat→Nat→Option Nat
 | 0,_=>none
 | k+1,i=>if tq l i=true then some i
  else if cAt l i=92∧tq l (i+1)=true then endB l k (i+4)
  else if soB (cAt l i)=false then none else endB l k (i+1)
def blcR(bS:List Int→ByteArray)(l:List Int)(p:Nat)(R:Option Nat):Int × Nat × ByteArray:=
 match R with
 | none=>(1,p,⟨#[]⟩)
 | some i=>(7,i+3,bS (insZ l (p+3) i))
def blc(bS:List Int→ByteArray)(l:List Int)(p:Nat):Int × Nat × ByteArray:=blcR bS l p (endB l (l.length+2) (p+3))
theorem zci(l:List Int)(i:Nat)(h:tq l i=true):i+2<l.length:=by
 unfold tq at h;exact zeo l (i+2) (of_decide_eq_true h).2.2
theorem zmd(bS:List Int→ByteArray)(bE:List Int→Int)
  (hB:∀ (a:Option Addr) (n c:Nat) (l:List Int) (w:World),Row .i32 w a n c l→n≤1099511627776→(∀ x∈l,scP x)→Calls prog 140 #[.slice a n c] w fun e w'=>e = .returned (.tuple #[.string (bS l),.int .i64 (bE l)])∧Below w.heap.size w w')
  (a:Option Addr) (n c:Nat) (cl:Bool) (l:List Int) (p:Nat) (w:World) (h:Row .i32 w a n c l) (hn:n≤1099511627776) (hp:p+3≤n) (hs:∀ x∈l,scP x) :
  Calls prog 117 #[src a n c cl,.int .i64 (p:Int)] w fun e w'=>e = .returned (.tuple #[.int .i64 (blc bS l p).1,.int .i64 ((blc bS l p).2.1:Int),.string (blc bS l p).2.2])∧Below w.heap.size w w':=by
 have hl:=Hi h.len;have hle:=h.le;have HB0:=Hi hB;clear hB
 obtain⟨b,off,rfl⟩:∃ b off,a=some ⟨b,off,none⟩:=by
  rcases h.at_ with h1 | ⟨b,off,e,_⟩
  ·omega
  ·exact⟨b,off,e⟩
 have HS:=Hi hs;clear hs;obtain⟨R,hR⟩:∃ R,R=endB l (n+2) (p+3):=⟨_,rfl⟩;have HQ:=Hi (show blc bS l p=blcR bS l p R from by unfold blc;rw[uh hl,hR])
 have HR:=Hi hR.symm;clear hR;have hA:=Hi (fun W (hb:Below w.heap.size w W) (k:Nat) (hk:k≤n+1)=>zcn _ n c cl l k W (h.below hb) (by omega))
 have hT:=Hi (fun W (hb:Below w.heap.size w W) (k:Nat) (hk:k≤n+1)=>zns _ n c cl l k W (h.below hb) hn (by omega))
 have hsb:=Hi (Sb.new w (some ⟨b,off,none⟩) n c cl);unfold src at hA hT ⊢
 go_enter func117,ntmps117
 go_wp2_with fail
 obtain⟨w1,hw1⟩:∃ w1,w1=w.alloc (.cells #[.slice (some ⟨b,off,none⟩) n c,.bool cl] 113):=⟨_,rfl⟩;rw[←hw1] at hsb ⊢;clear hw1
 go_loopg [8] (n+1) (fun g vi wr=>∃ k fu:Nat,p+3≤k∧k≤n∧n+1≤g+k∧n+1≤fu+k∧vi = .int .i64 k∧Hid (endB l fu k=R)∧Sb w wr (some ⟨b,off,none⟩) n c cl)
 case atStart=>exact⟨p+3,n+2,by omega,by omega,by omega,by omega,by go_num,HR,uh hsb⟩
 case round =>
  obtain⟨k,fu,hpk,hk,hg,hf,rfl,hik,hs⟩:=hrel;obtain⟨f2,rfl⟩:∃ f2,fu=f2+1:=⟨fu-1,by omega⟩
  have hik':=Hi (show (if tq l k=true then some k
   else if cAt l k=92∧tq l (k+1)=true then endB l f2 (k+4)
   else if soB (cAt l k)=false then none else endB l f2 (k+1))=R from uh hik)
  clear hik;have d0:=hs.c0;have d1:=hs.c1
  go_wp2_with fail
  refine (uh hT wr hs.bel k (by omega)).mono ?_
  rintro e w2 ⟨rfl,b2⟩;have hs2:=hs.below b2;clear hs d0 d1;have d0:=hs2.c0;have d1:=hs2.c1
  cases ht:tq l k with
  | true =>
   have hRk:=Hi (show R=some k from by rw[←uh hik',if_pos ht])
   have hkn:k+2<n:=by rw[←uh hl];exact zci l k ht
   have kc:(k:Int)≤(c:Int):=by omega
   have pc:¬c=p+3:=by omega
   have HU:=Hi (uh HB0 _ _ _ _ w2 ((zb3 h (p+3) k hpk (by omega)).below hs2.bel) (by omega) (fun x hx=>uh HS x (List.mem_of_mem_drop (List.mem_of_mem_take hx))))
   have HF:=Hi (show blc bS l p=(7,k+3,bS (insZ l (p+3) k)) from by rw[uh HQ,uh hRk];rfl)
   clear hik' ht
   go_wp2_with fail
   refine (uh HU).mono ?_
   rintro e w3 ⟨rfl,b3⟩
   go_wp2_with fail
   go_ret3
   exact⟨by rw[uh HF];rfl,hs2.bel.trans (b3.mono hs2.bel.size)⟩
  | false =>
   rw[ht] at hik'
   go_wp2_with fail
   refine (uh hA w2 hs2.bel k (by omega)).mono ?_
   rintro e w3 ⟨rfl,b3⟩;have hs3:=hs2.below b3;clear hs2 d0 d1 ht;have d0:=hs3.c0;have d1:=hs3.c1;obtain⟨x,hx⟩:∃ x,x=cAt l k:=⟨_,rfl⟩;rw[←hx] at hik' ⊢;have Hx:=Hi hx.symm;clear hx
   by_cases h92:x=92
   ·subst h92
    have HP:=Hi (show ∀ y,tq l (k+1)=y→(if y=true then endB l f2 (k+4) else endB l f2 (k+1))=R from fun y hy=>by
     have e:=uh hik';rw[if_neg (by decide)] at e
     subst hy
     by_cases hy:tq l (k+1)=true
     ·rw[if_pos ⟨rfl,hy⟩] at e
      rw[if_pos hy];exact e
     ·rw[if_neg (fun e=>hy e.2),if_neg (show ¬soB 92=false by decide)] at e
      rw[if_neg hy]
      exact e)
    have hk1:k<n:=by
     rw[←uh hl];exact zfz l k (by rw[uh Hx];decide)
    have S:=Hi (fun W=>za0 92 W)
    rw[show soB 92=true from by decide] at S
    clear hik' Hx
    go_wp2_with fail
    rw[show ((k:Int)+1)=((k+1:Nat):Int) by omega]
    refine (uh hT w3 hs3.bel (k+1) (by omega)).mono ?_
    rintro e w4 ⟨rfl,b4⟩;have hs4:=hs3.below b4;clear hs3 d0 d1;have d0:=hs4.c0;have d1:=hs4.c1
    cases ht:tq l (k+1) with
    | true =>
     have hkn:k+1+2<n:=by rw[←uh hl];exact zci l (k+1) ht
     have hik3:=Hi (show endB l f2 (k+4)=R from by
      have e:=uh HP _ ht;rw[if_pos rfl] at e
      exact e)
     clear HP ht
     go_wp2_with fail
     go_roundg (gk-1)
     case rel=>exact⟨k+4,f2,by omega,by omega,by omega,by omega,by go_num,hik3,hs4⟩
     case measure=>omega
    | false =>
     have hik3:=Hi (show endB l f2 (k+1)=R from by
      have e:=uh HP _ ht;rw[if_neg (by decide)] at e
      exact e)
     clear HP ht
     go_wp2_with fail
     refine (uh S _).mono ?_
     rintro e w5 ⟨rfl,rfl⟩
     go_wp2_with fail
     go_roundg (gk-1)
     case rel=>exact⟨k+1,f2,by omega,by omega,by omega,by omega,by go_num,hik3,hs4⟩
     case measure=>omega
   ·have e92:(x==92)=false:=by simpa using h92
    have hik2:=Hi (show (if soB x=false then none else endB l f2 (k+1))=R from by
     have e:=uh hik';rw[if_neg (by decide),if_neg (fun e=>h92 e.1)] at e
     exact e)
    clear hik'
    go_wp2_with fail
    refine (za0 x _).mono ?_
    rintro e w5 ⟨rfl,rfl⟩
    cases hsx:soB x with
    | false =>
     have HF:=Hi (show blc bS l p=(1,p,⟨#[]⟩) from by rw[uh HQ,←uh hik2,if_pos hsx];rfl)
     have HB:=Hi (fun W=>za3 p W)
     clear hik2 Hx hsx
     go_wp2_with fail
     refine (uh HB _).mono ?_
     rintro e w6 ⟨rfl,rfl⟩
     go_wp2_with fail
     go_ret3
     exact⟨by rw[uh HF];rfl,hs3.bel⟩
    | true =>
     have hkn:k<n:=by rw[←uh hl];exact zfz l k (by rw[uh Hx,hsx])
     have hik3:=Hi (show endB l f2 (k+1)=R from by rw[←uh hik2,if_neg (by rw[hsx];decide)])
     clear hik2 Hx hsx
     go_wp2_with fail
     go_roundg (gk-1)
     case rel=>exact⟨k+1,f2,by omega,by omega,by omega,by omega,by go_num,hik3,hs3⟩
     case measure=>omega
end lx
namespace sv
open mem
open ints (Hi uh)
theorem zhr(M:List (List Int))(x:List Int):jn (M++[x])=if M.length=0 then x else jn M++([10]++x):=by
 induction M with
 | nil=>rfl
 | cons a M ih =>
  cases M with
  | nil=>simp[jn]
  | cons b M =>
   rw[if_neg (by simp)] at ih ⊢
   show a++10::jn ((b::M)++[x])=(a++10::jn (b::M))++([10]++x)
   rw[ih];simp
theorem zgt(A B:List (List Int)):(jn A).length≤(jn (A++B)).length:=by
 induction A with
 | nil=>exact Nat.zero_le _
 | cons a A ih =>
  cases A with
  | nil =>
   cases B with
   | nil=>exact lr _
   | cons b B=>simp[jn]
  | cons a2 A =>
   show (a++10::jn (a2::A)).length≤(a++10::jn ((a2::A)++B)).length
   simp only[List.length_append,List.length_cons] at ih ⊢;omega
theorem zdc(L:List (List Int))(k:Nat):(jn (L.take k)).length≤(jn L).length:=by
 have:=zgt (L.take k) (L.drop k);rw[List.take_append_drop] at this;exact this
theorem zhs(b off n c:Nat)(L:List (List Int))(w:World)(h:Lns w b off n c L)(hn:n≤1099511627777)(hm:(jn L).length≤1099511627776) :
  Calls prog 159 #[.slice (some ⟨b,off,none⟩) n c] w fun e w'=>∃ v,e = .returned v∧w'.ownsRow w.heap.size 21 1 v (jn L).length ((jn L).map (Value.int .i32))∧Below w.heap.size w w':=by
 obtain⟨i0,hi,hz0,hz1,hz2⟩:=info_parts info32;have HL:=Hi h.len;have hle:=h.le
 go_enter func159,ntmps159
 go_wp2_with fail
 go_loopw [3,8] (fun v i wr=>∃ k:Nat,k≤n∧i = .int .i64 k∧wr.ownsRow w.heap.size 21 1 v (jn (L.take k)).length ((jn (L.take k)).map (Value.int .i32))∧Below w.heap.size w wr) (fun _ i _=>n-(intOf i).toNat)
 case atStart=>exact⟨0,Nat.zero_le _,rfl,World.ownsRow_nil _ _ _ _,Below.refl _ _⟩
 case round =>
  obtain⟨k,hk,rfl,hown,hb⟩:=hrel
  by_cases hlt:k<n
  ·obtain⟨ai,ci,h1,h2,_⟩:=h.at_ k hlt
   have hcl:=(hb.cell (p:=⟨b,off+k,none⟩) h.lt).trans h1;have hkl:k<L.length:=by rw[uh HL];exact hlt
   have hsn:=Hi (show jn (L.take (k+1))=if k=0 then L.getD k [] else jn (L.take k)++([10]++L.getD k []) from by
    rw[zcI L k hkl,zhr,List.length_take,Nat.min_eq_left (Nat.le_of_lt hkl)])
   have hlen:=zdc L (k+1);have H2:=Hi h2;have i1:(k:Int)<(n:Int):=by omega
   have hbs:=hb.size;obtain⟨x,hx⟩:∃ x,x=L.getD k []:=⟨_,rfl⟩;rw[←hx] at h1 hcl hsn H2;obtain⟨M,hM⟩:∃ M,M=jn (L.take k):=⟨_,rfl⟩;rw[←hM] at hsn hown;have hM0:=Hi (show k=0→M=[] from fun e=>by rw[hM,e];rfl)
   clear hx h1 h2 hM hkl;obtain⟨aB,cB,rfl⟩:=lx.zaz hown
   by_cases h0:k=0
   ·have hsn2:=Hi (show jn (L.take (k+1))=M++x from by rw[uh hsn,if_pos h0,uh hM0 h0];rfl)
    rw[uh hsn2,List.length_append] at hlen;clear hsn hM0;subst h0;rw[Nat.add_zero] at hcl
    go_wp2_with (at_builtin;refine lx.zaG _ rfl _ _ 109 rfl w.heap.size 21 i0 .i32 4 underlying109 hi hz0 hz1 hz2 _ _ _ rfl hown _ _ _ x rfl ((uh H2).below hb) (by unfold maxLen;omega) (by omega) (by omega) ?_;intro v' wC hown' hbC)
    refine⟨⟨0+1,by omega,by go_num,?_,hb.trans hbC⟩,by simp only[intOf];omega⟩
    rw[uh hsn2,List.length_append,List.map_append];exact hown'
   ·have hsn2:=Hi (show jn (L.take (k+1))=(M++[10])++x from by rw[uh hsn,if_neg h0];simp)
    rw[uh hsn2,List.length_append,List.length_append] at hlen;simp only[List.length_cons,List.length_nil] at hlen;have k0:(0:Int)<(k:Int):=by omega
    clear hsn hM0
    go_wp2_with (first
     | (at_builtin;refine lx.zau _ rfl _ _ 109 rfl w.heap.size 21 i0 .i32 4 underlying109 hi hz0 hz1 hz2 _ _ _ rfl hown _ rfl (by unfold maxLen;omega) (by omega) (by omega) ?_;intro v' wC hown' hbC;obtain⟨aC,cC,rfl⟩:=lx.zaz hown';have hbs2:=(hb.trans hbC).size)
     | (at_builtin;refine lx.zaG _ rfl _ _ 109 rfl w.heap.size 21 i0 .i32 4 underlying109 hi hz0 hz1 hz2 _ _ _ rfl hown' _ _ _ x rfl ((uh H2).below (hb.trans hbC)) (by unfold maxLen;omega) (by omega) (by omega) ?_;intro v2 wD hown2 hbD))
    refine⟨⟨k+1,by omega,by go_num,?_,(hb.trans hbC).trans hbD⟩,by simp only[intOf];omega⟩
    rw[uh hsn2,List.length_append,List.length_append,List.map_append,List.map_append];exact hown2
  ·obtain rfl:k=n:=by omega
   have e:L.take k=L:=List.take_of_length_le (by rw[uh HL];omega)
   rw[e] at hown;clear e
   go_wp2_with fail
   go_ret
   exact⟨_,rfl,hown,hb⟩
def frm(L:List (List Int)):Nat:=(L.takeWhile blk).length
def cmI(L:List (List Int)):Nat:=(max (lsI (L.drop 1)) 0).toNat
def cutF(f c:Nat)(M:List (List Int)):List (List Int):=if f=0 then cutL c M else M.map (List.drop c)
def dd(L:List (List Int)):List (List Int):=cutF (frm L) (cmI L) (trm L)
theorem zfA(f c:Nat)(M:List (List Int)):(cutF f c M).length=M.length:=by
 unfold cutF
 split
 ·cases M <;> simp[cutL]
 ·simp
theorem ziP(f c:Nat)(M:List (List Int))(i:Nat)(h:i<M.length):(cutF f c M).getD i []=if f+i=0 then M.getD i [] else (M.getD i []).drop c:=by
 unfold cutF
 by_cases hf:f=0
 ·rw[if_pos hf]
  cases M with
  | nil=>simp at h
  | cons x M =>
   cases i with
   | zero=>simp[cutL,hf]
   | succ i =>
    rw[if_neg (by omega)]
    have h2:i<M.length:=by simpa using h
    simp[cutL,List.getD,h2]
 ·rw[if_neg hf,if_neg (by omega)]
  simp[List.getD,h]
theorem zfL:∀ (L:List (List Int)) (f:Nat),f≤L.length→(∀ j,j<f→blk (L.getD j [])=true)→(f<L.length→blk (L.getD f [])=false)→frm L=f
 | [],f,h,_,_=>by simp at h;subst h;rfl
 | x::r,0,_,_,h=>by
  have hx:blk x=false:=by simpa using h (by simp)
  unfold frm;rw[List.takeWhile_cons,hx];rfl
 | x::r,f+1,h,h1,h2=>by
  have hx:blk x=true:=by simpa using h1 0 (by omega)
  have e:frm (x::r)=frm r+1:=by unfold frm;rw[List.takeWhile_cons,hx];simp
  rw[e,zfL r f (by simp at h;omega) (fun j hj=>by simpa using h1 (j+1) (by omega)) (fun hf=>by simpa using h2 (by simp;omega))]
theorem zcJ(L:List (List Int))(f t:Nat)(hft:f≤t)(ht:t≤L.length)(h1:∀ j,j<f→blk (L.getD j [])=true)(h2:f<t→blk (L.getD f [])=false)
  (h3:∀ j,t≤j→j<L.length→blk (L.getD j [])=true) (h4:f<t→blk (L.getD (t-1) [])=false):trm L=(L.drop f).take (t-f):=by
 have hA:∀ x∈L.take f,blk x=true:=fun x hx=>by
  obtain⟨i,hi,rfl⟩:=List.mem_iff_getElem.1 hx;have hi2:i<f∧i<L.length:=by simp at hi;omega
  have:=h1 i hi2.1
  simpa[List.getD,hi2.2] using this
 have hB:∀ x∈L.drop t,blk x=true:=fun x hx=>by
  obtain⟨i,hi,rfl⟩:=List.mem_iff_getElem.1 hx;have hi2:t+i<L.length:=by simp at hi;omega
  have:=h3 (t+i) (by omega) hi2
  simpa[List.getD,hi2] using this
 have e:L=L.take f++(L.drop f).take (t-f)++L.drop t:=by
  have e1:=List.take_append_drop f L;have e2:=List.take_append_drop (t-f) (L.drop f);rw[List.drop_drop,show f+(t-f)=t by omega] at e2
  rw[List.append_assoc,e2,e1]
 by_cases hlt:f<t
 ·conv=>lhs;rw[e]
  have hfl:f<L.length:=by omega
  have ht1:t-1<L.length:=by omega
  refine zfs hA hB ⟨L.getD f [],(L.drop (f+1)).take (t-f-1),?_,h2 hlt⟩ ⟨L.getD (t-1) [],(L.drop f).take (t-f-1),?_,h4 hlt⟩
  ·rw[List.drop_eq_getElem_cons hfl]
   conv=>lhs;rw[show t-f=(t-f-1)+1 by omega,List.take_succ_cons]
   simp[List.getD,hfl]
  ·conv=>lhs;rw[show t-f=(t-f-1)+1 by omega]
   rw[List.take_add_one]
   congr 1
   rw[List.getElem?_drop,show f+(t-f-1)=t-1 by omega]
   simp[List.getD,ht1]
 ·have hE:t=f:=by omega
  subst hE
  have hall:∀ x∈L,blk x=true:=fun x hx=>by
   rw[←List.take_append_drop t L] at hx
   rcases List.mem_append.1 hx with h5 | h5
   ·exact hA x h5
   ·exact hB x h5
  unfold trm;rw[za4 hall];simp
theorem zml(L:List (List Int)):((cmI L:Nat):Int)=max (lsI (L.drop 1)) 0:=by
 unfold cmI;omega
theorem zmM:∀ (L:List (List Int)) (m N:Nat),lst L=some m→(∀ i,(L.getD i []).length≤N)→m≤N
 | [],m,N,h,_=>by cases h
 | x::L,m,N,h,hN=>by
  have h1:=(zd5 h).1;obtain⟨y,hy,_,e⟩:=h1;obtain⟨i,hi,rfl⟩:=List.mem_iff_getElem.1 hy;have:=hN i;have e2:(x::L).getD i []=(x::L)[i]:=by rw[List.getD,List.getElem?_eq_getElem hi];rfl
  rw[e2] at this;have:=zdy ((x::L)[i]);omega
theorem zmm(L:List (List Int))(N:Nat)(h:∀ i,(L.getD i []).length≤N):cmI L≤N:=by
 unfold cmI lsI
 cases e:lst (L.drop 1) with
 | none=>simp only;omega
 | some m =>
  have:=zmM (L.drop 1) m N e (fun i=>by have:=h (i+1);simpa[List.getD] using this)
  simp only;omega
theorem Lns.tail{w:World}{b n c:Nat}{L:List (List Int)}(h:Lns w b 0 n c L):Lns w b 1 (n-1) (c-1) (L.drop 1):=by
 refine⟨by rw[List.length_drop,h.len],by have:=h.le;omega,h.lt,fun i hi=>?_⟩
 obtain⟨ai,ci,h1,h2,h3⟩:=h.at_ (1+i) (by omega)
 have e:(L.drop 1).getD i []=L.getD (1+i) []:=by simp[List.getD,Nat.add_comm]
 rw[e];exact⟨ai,ci,by simpa using h1,h2,h3⟩
theorem Lns.nil0{w:World}{b off:Nat}(h:b<w.heap.size):Lns w b off 0 0 []:=⟨rfl,lr _,h,fun i hi=>by omega⟩
theorem zg1(b n c:Nat)(L:List (List Int))(w:World)(h:Lns w b 0 n c L)(h0:0<n)(hn:n≤9223372036854775806)(hm:∀ i,(L.getD i []).length≤1099511627776) :
  Calls prog 174 #[.slice (some ⟨b,0,none⟩) n c] w fun e w'=>e = .returned (.int .i64 (cmI L:Nat))∧Below w.heap.size w w':=by
 have hle:=h.le;have hm1:∀ i,((L.drop 1).getD i []).length≤1099511627776:=fun i=>by have:=hm (i+1);simpa[List.getD] using this
 rw[zml]
 by_cases hc:c=1
 ·subst hc
  have hn1:n=1:=by omega
  subst hn1;have hd:L.drop 1=[]:=List.drop_eq_nil_of_le (by rw[h.len];omega)
  have I:=Hi (zfR b 0 0 0 (L.drop 1) w (by rw[hd];exact Lns.nil0 h.lt) (by omega) hm1)
  clear hm1 hm hd
  generalize max (lsI (L.drop 1)) 0=M at *
  go_enter func174,ntmps174
  go_wp2_with fail
  refine (uh I).mono ?_
  rintro e w1 ⟨rfl,hb⟩;clear I
  go_wp2
  go_ret
  exact⟨rfl,hb⟩
 ·have I:=Hi (zfR b 1 (n-1) (c-1) (L.drop 1) w h.tail (by omega) hm1)
  have c1:¬c=1:=hc;have n1:¬((n:Int)=0):=by omega
  have i1:(1:Int)≤(n:Int):=by omega
  have i2:(n:Int)≤(c:Int):=by omega
  clear hm1 hm
  generalize max (lsI (L.drop 1)) 0=M at *
  go_enter func174,ntmps174
  go_wp2_with fail
  refine (uh I).mono ?_
  rintro e w1 ⟨rfl,hb⟩;clear I
  go_wp2
  go_ret
  exact⟨rfl,hb⟩
theorem zcb(a:Option Addr)(n c:Nat)(l:List Int)(w:World)(h:Row .i32 w a n c l)(hn:4 * n≤281474976710656) :
  Calls prog 175 #[.slice a n c] w fun e w'=>e = .returned (.slice (some ⟨w.heap.size,0,none⟩) n n) ∧
   w'.ownsRow w.heap.size 21 1 (.slice (some ⟨w.heap.size,0,none⟩) n n) n (l.map (Value.int .i32))∧Below w.heap.size w w':=by
 obtain⟨i0,hi,hz0,hz1,hz2⟩:=info_parts info32;have hl:(l.map (Value.int .i32)).length=n:=by simp[h.len]
 go_enter func175,ntmps175
 go_wp2_with (first
  | (refine wpList_make_full _ rfl _ _ 109 rfl w.heap.size 21 i0 (.int .i32 0) 1 underlying109 hi hz0 hz1 .i64 .i64 _ _ n rfl rfl rfl rfl (by rw[hz2];omega) (by unfold maxLen;omega) (lr _) ?_;intro w1 hown hgrow;have hg1:=belowNone hgrow;have hr1:=h.below hg1;obtain⟨cur,hcur,hcs⟩:=zbM hown)
  | (refine wpList_copy_splice rfl (.tmp 7) (.tmp 8) 109 109 rfl 21 underlying109 size32 _ _ n n n c rfl rfl w.heap.size 0 cur.toList 21 hcur (l.map (Value.int .i32)) (by rw[hl];exact (Nat.min_self n).symm) (fun hp=>⟨rfl,zf6 hr1 (by rw[hl] at hp;exact hp)⟩) (by rw[hl];simp;omega) (ints_oneCell _ _) w.heap.size w hg1 (lr _) ?_;intro w2 hrow2 hb2))
 go_ret
 refine⟨rfl,?_,hb2⟩
 have:=hrow2.out;rw[zcG _ _ (by rw[hl];simpa using hcs)] at this
 exact⟨by simp[h.len],.inr ⟨w.heap.size,n,_,rfl,lr _,this,lr _,by unfold maxLen;omega,by simp[h.len],by rw[Nat.mul_one];exact List.take_of_length_le (by simp[h.len])⟩⟩
theorem Lns.vals{w:World}{b off n c:Nat}{L:List (List Int)}(h:Lns w b off n c L):∃ vs:List Value,vs.length=n∧∀ i,i<n→w.cell? ⟨b,off+i,none⟩=some (vs.getD i undef)∧∃ bi oi ci,vs.getD i undef = .slice (some ⟨bi,oi,none⟩) (L.getD i []).length ci∧Row .i32 w (some ⟨bi,oi,none⟩) (L.getD i []).length ci (L.getD i []):=by
 refine⟨(List.range n).map (fun i=>(w.cell? ⟨b,off+i,none⟩).getD undef),by simp,fun i hi=>?_⟩
 obtain⟨ai,ci,h1,h2,bi,oi,rfl⟩:=h.at_ i hi
 have e:((List.range n).map (fun i=>(w.cell? ⟨b,off+i,none⟩).getD undef)).getD i undef = .slice (some ⟨bi,oi,none⟩) (L.getD i []).length ci:=by
  simp[List.getD,hi,h1]
 rw[e];exact⟨h1,bi,oi,ci,rfl,h2⟩
theorem Row.other{k:IntKind}{w:World}{q n c g i:Nat}{l:List Int}{v:Value}(h:Row k w (some ⟨q,0,none⟩) n c l)(hq:q≠g):Row k (w.setCell ⟨g,i,none⟩ v) (some ⟨q,0,none⟩) n c l:=by
 refine⟨h.len,h.le,h.nil,?_⟩
 rcases h.at_ with h0 | ⟨b',off',e,hb,hc⟩
 ·exact .inl h0
 ·simp only[Option.some.injEq,Addr.mk.injEq,and_true] at e
  obtain⟨rfl,rfl⟩:=e;refine .inr ⟨q,0,rfl,by simpa using hb,fun j hj=>?_⟩
  rw[←hc j hj];exact World.cell?_of_block (Below.heap_setCell _ _ _ _ hq)
theorem infoSS:(prog.info? 109).map (fun i=>(i.zero,i.size,i.bytes))=some (some (.slice none 0 0),1,24):=by kernel_rfl
theorem sizeSS:(prog.info? 109).map (·.size)=some 1:=by kernel_rfl
structure DdI (w wr:World) (G m k:Nat) (cs:List Value) (D:List (List Int)):Prop where
 own:∃ xs,wr.ownsRow w.heap.size 109 1 (.slice (some ⟨G,0,none⟩) m m) m xs∧(∀ j,j<k→∃ gj,gj≠G∧xs.getD j undef=lineVal gj (D.getD j [])∧Row .i32 wr (some ⟨gj,0,none⟩) (D.getD j []).length (D.getD j []).length (D.getD j []))∧(∀ j,k≤j→j<m→xs.getD j undef=cs.getD j undef)
 bel:Below w.heap.size w wr
theorem DdI.cell{w wr:World}{G m k:Nat}{cs:List Value}{D:List (List Int)}(h:DdI w wr G m k cs D)(hk:k<m):wr.cell? ⟨G,k,none⟩=some (cs.getD k undef):=by
 obtain⟨xs,h1,h2,h3⟩:=h.own;have hl:xs.length=m:=by have:=h1.1;omega
 rw[h1.cellAt k (by omega),←h3 k (lr _) hk]
 simp[List.getD,show k<xs.length by omega]
theorem DdI.step{w wr w4:World}{G m k p:Nat}{cs:List Value}{D:List (List Int)}{x:List Int}(h:DdI w wr G m k cs D)(hk:k<m)(hb:Below wr.heap.size wr w4)
  (hln:w4.ownsRow wr.heap.size 21 1 (.slice (some ⟨wr.heap.size,0,none⟩) p p) p (x.map (Value.int .i32))) (hx:D.getD k []=x) :
  (∃ v,w4.cell? ⟨G,k,none⟩=some v)∧w4.frozen? ⟨G,k,none⟩=false∧DdI w (w4.setCell ⟨G,k,none⟩ (.slice (some ⟨wr.heap.size,0,none⟩) p p)) G m (k+1) cs D:=by
 obtain⟨xs,h1,h2,h3⟩:=h.own;have hl:xs.length=m:=by have:=h1.1;omega
 have h4:=zah h1 hb;have hG:=h1.lt G rfl;have hp:p=x.length:=by have:=hln.1;simp at this;exact this.symm
 refine⟨⟨_,by rw[h4.cellAt k (by omega),List.getElem?_eq_getElem (by omega)]⟩,h4.frozenAt k,⟨⟨_,(h4.stored k _).1,fun j hj=>?_,fun j hj hj2=>?_⟩,(h.bel.trans (hb.mono h.bel.size)).setCell hG.1 _⟩⟩
 ·by_cases e:j=k
  ·subst e
   refine⟨wr.heap.size,by omega,?_,?_⟩
   ·rw[hx]
    unfold lineVal;rw[hp];simp[List.getD,show j<xs.length by omega]
   ·obtain⟨a,cp,e1,hrow⟩:=zay hln
    simp only[Value.slice.injEq] at e1;obtain⟨rfl,_,rfl⟩:=e1;rw[hx,←hp];exact Row.other hrow (by omega)
  ·obtain⟨gj,g1,g2,g3⟩:=h2 j (by omega)
   refine⟨gj,g1,?_,Row.other (g3.below hb) g1⟩
   rw[←g2];simp[List.getD,show ¬k=j from fun e'=>e e'.symm]
 ·rw[←h3 j (by omega) hj2]
  simp[List.getD,show ¬k=j by omega]
theorem DdI.done{w wr:World}{G m:Nat}{cs:List Value}{D:List (List Int)}(h:DdI w wr G m m cs D)(hD:D.length=m):Lns wr G 0 m m D:=by
 obtain⟨xs,h1,h2,h3⟩:=h.own;have hl:xs.length=m:=by have:=h1.1;omega
 refine⟨hD,lr _,(h1.lt G rfl).2,fun i hi=>?_⟩
 obtain⟨gj,g1,g2,g3⟩:=h2 i hi;refine⟨_,_,?_,g3,_,_,rfl⟩
 rw[Nat.zero_add,h1.cellAt i (by omega),List.getElem?_eq_getElem (by omega)]
 have:xs.getD i undef=xs[i]'(by omega):=by simp[List.getD,show i<xs.length by omega]
 rw[←this,g2];rfl
theorem zg5(b n c:Nat)(L:List (List Int))(w:World)(h:Lns w b 0 n c L)(h0:0<n)(hn:n≤1099511627777)(hm:∀ i,(L.getD i []).length≤1099511627776) :
  Calls prog 160 #[.slice (some ⟨b,0,none⟩) n c] w fun e w'=>∃ g,e = .returned (.slice (some ⟨g,0,none⟩) (dd L).length (dd L).length)∧Lns w' g 0 (dd L).length (dd L).length (dd L)∧Below w.heap.size w w':=by
 obtain⟨i0,hi,hz0,hz1,hz2⟩:=info_parts infoSS;have HL:=Hi h.len;have hle:=h.le
 have hB:=Hi (show ∀ k,k<n→∃ ai ci,w.cell? ⟨b,k,none⟩=some (.slice ai (L.getD k []).length ci)∧Calls prog 173 #[.slice ai (L.getD k []).length ci] w (fun e w'=>e = .returned (.bool (blk (L.getD k [])))∧w=w') from fun k hk=>by
  obtain⟨ai,ci,h1,h2,_⟩:=h.at_ k hk;rw[Nat.zero_add] at h1
  exact⟨ai,ci,h1,(zbp ai _ ci _ w h2 (by have:=hm k;omega)).mono (fun e w' he=>⟨he.1,he.2.symm⟩)⟩)
 have hC:=Hi (zg1 b n c L w h h0 (by omega) hm)
 have hcm:=zmm L _ hm;obtain⟨cm,hcme⟩:∃ cm,cm=cmI L:=⟨_,rfl⟩;rw[←hcme] at hC hcm;have HCM:=Hi hcme;clear hcme;obtain⟨vs,hvl,hvs⟩:=h.vals;have HV:=Hi hvs;have HVL:=Hi hvl;have hblt:=h.lt;clear hvs hvl
 go_enter func160,ntmps160
 go_wp2_with fail
 go_loopw [3] (fun i wr=>∃ k:Nat,k≤n∧i = .int .i64 k∧w=wr∧Hid (∀ j,j<k→blk (L.getD j [])=true)) (fun i _=>n-(intOf i).toNat)
 case atStart=>exact⟨0,Nat.zero_le _,rfl,rfl,Hi (fun j hj=>by omega)⟩
 case round =>
  obtain⟨f,hf,rfl,rfl,hF⟩:=hrel
  by_cases hlt:f<n
  ·obtain⟨ai,ci,h1,h2⟩:=(uh hB) f hlt
   have H2:=Hi h2;clear h2;have i1:(f:Int)<(n:Int):=by omega
   cases hb:blk (L.getD f [])
   ·rw[hb] at H2
    have Hb:=Hi hb;clear hb
    go_wp2_with fail
    refine (uh H2).mono ?_
    rintro e w1 ⟨rfl,rfl⟩;clear H2 h1
    go_wp2_with fail
    go_loopw [4] (fun i wr=>∃ k:Nat,f<k∧k≤n∧i = .int .i64 k∧w=wr∧Hid (∀ j,k≤j→j<n→blk (L.getD j [])=true)) (fun i _=>(intOf i).toNat)
    case atStart=>exact⟨n,hlt,lr _,rfl,rfl,Hi (fun j hj hj2=>by omega)⟩
    case round =>
     obtain⟨t,hft,ht,rfl,rfl,hT⟩:=hrel;obtain⟨s,rfl⟩:∃ s,t=s+1:=⟨t-1,by omega⟩
     obtain⟨ai,ci,h1,h2⟩:=(uh hB) s (by omega)
     have H2:=Hi h2;clear h2;have es:((s+1:Nat):Int)=(s:Int)+1:=by omega
     have es2:((s+1:Nat):Int)-1=(s:Int):=by omega
     have i2:(f:Int)<(s:Int)+1:=by omega
     have i3:(s:Int)<(n:Int):=by omega
     cases hb2:blk (L.getD s [])
     ·rw[hb2] at H2
      have Hb2:=Hi hb2;clear hb2
      go_wp2_with fail
      refine (uh H2).mono ?_
      rintro e w1 ⟨rfl,rfl⟩;clear H2 h1
      go_wp2_with fail
      refine (uh hC).mono ?_
      rintro e w1 ⟨rfl,b1⟩;clear hC;obtain⟨m,hm0⟩:∃ m:Nat,s+1=f+m:=⟨s+1-f,by omega⟩
      have hmp:0<m:=by omega
      have i4:(s:Int)+1-(f:Int)=(m:Int):=by omega
      have i5:(f:Int)≤(s:Int)+1:=by omega
      have i6:(s:Int)+1≤(c:Int):=by omega
      have hB1:=b1.size;have hcsl:((vs.drop f).take m).length=m:=by rw[List.length_take,List.length_drop,uh HVL];omega
      have HCS:=Hi (fun (W:World) (hb:Below w.heap.size w W) (j:Nat) (u:Value) (hu:((vs.drop f).take m)[j]? = some u)=>show W.cell? ((⟨b,f,none⟩:Addr).add j)=some u from by
       have hj:j<m:=by
        rcases Nat.lt_or_ge j m with h | h
        ·exact h
        ·rw[List.getElem?_eq_none (by rw[hcsl];exact h)] at hu;cases hu
       have hc1:=((uh HV) (f+j) (by omega)).1
       rw[List.getElem?_take,if_pos hj,List.getElem?_drop] at hu
       have e2:vs.getD (f+j) undef=u:=by rw[List.getD,hu];rfl
       rw[e2,Nat.zero_add] at hc1;have:=(hb.cell (p:=⟨b,f+j,none⟩) hblt).trans hc1;unfold Addr.add
       split
       ·rename_i hj0
        subst hj0
        simpa using this
       ·exact this)
      have HON:=Hi (show ∀ v∈(vs.drop f).take m,v.oneCell'=true from fun v hv=>by
       obtain⟨j,hj,rfl⟩:=List.mem_iff_getElem.1 hv;have hj2:j<m:=by rw[hcsl] at hj;exact hj
       obtain⟨_,bi,oi,ci,e1,_⟩:=(uh HV) (f+j) (by omega)
       have e2:((vs.drop f).take m)[j]=vs.getD (f+j) undef:=by
        have hjv:f+j<vs.length:=by rw[uh HVL];omega
        simp[List.getD,hjv]
       rw[e2,e1]
       rfl)
      have Hcsl:=Hi hcsl;clear hcsl;obtain⟨cs,hcs⟩:∃ cs,cs=(vs.drop f).take m:=⟨_,rfl⟩;rw[←hcs] at HCS HON Hcsl;have Hcs:=Hi hcs;clear hcs
      go_wp2_with (first
       | (refine wpList_make_full _ rfl _ _ 183 rfl w.heap.size 109 i0 (.slice none 0 0) 1 underlying183 hi hz0 hz1 .i64 .i64 _ _ m rfl rfl (by omega) (by omega) (by rw[hz2];omega) (by unfold maxLen;omega) hB1 ?_;intro w2 hown hgrow;have hg1:=b1.trans ((belowNone hgrow).mono hB1);obtain⟨cur,hcur,hcz⟩:=zbM hown)
       | (refine wpList_copy_splice rfl _ _ 183 183 rfl 109 underlying183 sizeSS _ _ m m m m rfl rfl w1.heap.size 0 cur.toList 109 hcur cs (by rw[uh Hcsl];exact (Nat.min_self m).symm) (fun hp=>⟨rfl,_,rfl,(uh HCS) _ hg1⟩) (by rw[uh Hcsl];simp;omega) (uh HON) w.heap.size w hg1 hB1 ?_;intro w3 hrow3 hb3))
      have Hm0:=Hi hm0;have hB3:=hb3.size
      have HD0:=Hi (show frm L=f∧trm L=(L.drop f).take m from ⟨zfL L f (by rw[uh HL];exact hf) (uh hF) (fun _=>uh Hb),by
       have:=zcJ L f (s+1) (by omega) (by rw[uh HL];exact ht) (uh hF) (fun _=>uh Hb) (fun j hj hj2=>uh hT j hj (by rw[uh HL] at hj2;exact hj2)) (fun _=>uh Hb2)
       rw[this]
       congr 1
       omega⟩)
      have HDl:=Hi (show (dd L).length=m from by
       unfold dd;rw[zfA,(uh HD0).2,List.length_take,List.length_drop,uh HL]
       omega)
      have HD:=Hi (show ∀ k,k<m→(dd L).getD k []=if f+k=0 then L.getD (f+k) [] else (L.getD (f+k) []).drop cm from fun k hk=>by
       have hk2:k<(trm L).length:=by rw[(uh HD0).2,List.length_take,List.length_drop,uh HL];omega
       have e1:(trm L).getD k []=L.getD (f+k) []:=by
        rw[(uh HD0).2];simp[List.getD,hk]
       unfold dd
       rw[ziP _ _ _ _ hk2,(uh HD0).1,←uh HCM,e1])
      have hI0:DdI w w3 w1.heap.size m 0 cs (dd L):=by
       refine⟨⟨cs,?_,fun j hj=>by omega,fun j _ _=>rfl⟩,hb3⟩
       have:=hrow3.out;rw[zcG _ _ (by rw[uh Hcsl];simpa using hcz)] at this
       exact⟨by rw[uh Hcsl];omega,.inr ⟨w1.heap.size,m,_,rfl,hB1,this,lr _,by unfold maxLen;omega,by simp[uh Hcsl],by rw[Nat.mul_one];exact List.take_of_length_le (by simp[uh Hcsl])⟩⟩
      obtain⟨G,hG⟩:∃ G,G=w1.heap.size:=⟨_,rfl⟩;have hGb:w.heap.size≤G:=by omega
      rw[←hG] at hI0 ⊢;clear hG;have HI0:=Hi hI0;clear hI0 hrow3 hcur hcz hown hgrow hg1 hb3 HCS HON hB3 HD0 hT Hb2 hF Hb hm0
      go_loopw [52] (fun i wr=>∃ k:Nat,k≤m∧i = .int .i64 k∧DdI w wr G m k cs (dd L)) (fun i _=>m-(intOf i).toNat)
      case atStart=>exact⟨0,Nat.zero_le _,rfl,uh HI0⟩
      case round =>
       obtain⟨k,hk,rfl,hI⟩:=hrel
       by_cases hkm:k<m
       ·have hfk:f+k<n:=by have:=uh Hm0;omega
        obtain⟨_,bi,oi,ci,e1,hr⟩:=(uh HV) (f+k) hfk;have c1:=hI.cell hkm
        have e2:cs.getD k undef=vs.getD (f+k) undef:=by
         rw[uh Hcs];simp[List.getD,hkm]
        rw[e2,e1] at c1;have hdk:=Hi ((uh HD) k hkm);have hq:=hm (f+k);have hrb:=hr.below hI.bel;have hrl:=hr.len;obtain⟨lk,hlk⟩:∃ lk,lk=L.getD (f+k) []:=⟨_,rfl⟩;rw[←hlk] at c1 hdk hq hr hrb hrl;obtain⟨q,hqe⟩:∃ q,q=lk.length:=⟨_,rfl⟩;rw[←hqe] at c1 hq hr hrb hrl;have Hq:=Hi hqe;have hrle:=hr.le;have HR:=Hi hrb;have i7:(k:Int)<(m:Int):=by omega
        clear e1 e2 hr hrl hlk hqe hrb hfk;have zq:(0:Int)≤(q:Int):=by omega
        have qc:(q:Int)≤(ci:Int):=by omega
        by_cases hfk0:f+k=0
        ·have hfb:((f:Int)+(k:Int)==0)=true:=by simp;omega
         have hdd:=Hi (show (dd L).getD k []=lk from by rw[uh hdk,if_pos hfk0])
         clear hdk hfk0
         by_cases hq0:q=0
         ·subst hq0
          have hl0:lk=[]:=List.eq_nil_of_length_eq_zero (uh Hq).symm;have N:=Hi (zcb (some ⟨bi,oi,none⟩) 0 0 [] wr (⟨rfl,lr _,(fun e=>by cases e),.inl rfl⟩) (by omega))
          have HX:=Hi (show (dd L).getD k []=[] from by rw[uh hdd,hl0])
          clear HR
          go_wp2_with fail
          refine (uh N).mono ?_
          rintro e w4 ⟨rfl,hln,hb4⟩;clear N;obtain⟨⟨u4v,c4⟩,f4,hnx⟩:=hI.step hkm hb4 hln (uh HX);have HN:=Hi hnx;clear hnx hln hb4 hI HX c1
          go_wp2
          go_roundw
          case rel=>exact⟨k+1,by omega,by go_num,uh HN⟩
          case measure=>first | (simp[intOf];omega) | simp[intOf]
         ·have j1:¬q=0:=hq0
          have N:=Hi (zcb (some ⟨bi,oi,none⟩) q q lk wr (⟨(uh HR).len,lr _,(fun e=>by cases e),(uh HR).at_⟩) (by omega))
          have HX:=Hi (show (dd L).getD k []=lk from uh hdd)
          clear HR
          go_wp2_with fail
          refine (uh N).mono ?_
          rintro e w4 ⟨rfl,hln,hb4⟩;clear N;obtain⟨⟨u4v,c4⟩,f4,hnx⟩:=hI.step hkm hb4 hln (uh HX);have HN:=Hi hnx;clear hnx hln hb4 hI HX c1
          go_wp2
          go_roundw
          case rel=>exact⟨k+1,by omega,by go_num,uh HN⟩
          case measure=>first | (simp[intOf];omega) | simp[intOf]
        ·have hfb:((f:Int)+(k:Int)==0)=false:=by simp;omega
         by_cases hcq:cm≤q
         ·have hdd:=Hi (show (dd L).getD k []=lk.drop cm from by rw[uh hdk,if_neg hfk0])
          clear hdk hfk0
          by_cases hceq:cm=q
          ·have hl0:=Hi (show lk.drop cm=[] from List.drop_eq_nil_of_le (by rw[←uh Hq];omega))
           subst hceq;have N:=Hi (zcb (some ⟨bi,oi,none⟩) 0 0 [] wr (⟨rfl,lr _,(fun e=>by cases e),.inl rfl⟩) (by omega))
           have HX:=Hi (show (dd L).getD k []=[] from by rw[uh hdd,uh hl0])
           clear HR
           go_wp2_with fail
           refine (uh N).mono ?_
           rintro e w4 ⟨rfl,hln,hb4⟩;clear N;obtain⟨⟨u4v,c4⟩,f4,hnx⟩:=hI.step hkm hb4 hln (uh HX);have HN:=Hi hnx;clear hnx hln hb4 hI HX c1
           go_wp2
           go_roundw
           case rel=>exact⟨k+1,by omega,by go_num,uh HN⟩
           case measure=>first | (simp[intOf];omega) | simp[intOf]
          ·have j1:cm<q:=by omega
           have mj:(cm:Int)<(q:Int):=by omega
           have mi:min (cm:Int) (q:Int)=(cm:Int):=by omega
           have j2:¬q-cm=0:=by omega
           have hrw:=Hi (show Row .i32 wr (some ⟨bi,oi+cm,none⟩) (q-cm) (q-cm) (lk.drop cm) from by
            have:=lx.zb3 (uh HR) cm q (by omega) (lr _)
            have e:lx.insZ lk cm q=lk.drop cm:=by unfold lx.insZ;exact List.take_of_length_le (by rw[List.length_drop,←uh Hq];omega)
            rw[e] at this
            exact⟨this.len,lr _,(fun e=>by cases e),this.at_⟩)
           clear hceq;have N:=Hi (zcb (some ⟨bi,oi+cm,none⟩) (q-cm) (q-cm) (lk.drop cm) wr (uh hrw) (by omega))
           have HX:=Hi (show (dd L).getD k []=(lk.drop cm) from uh hdd)
           clear HR
           go_wp2_with fail
           refine (uh N).mono ?_
           rintro e w4 ⟨rfl,hln,hb4⟩;clear N;obtain⟨⟨u4v,c4⟩,f4,hnx⟩:=hI.step hkm hb4 hln (uh HX);have HN:=Hi hnx;clear hnx hln hb4 hI HX c1
           go_wp2
           go_roundw
           case rel=>exact⟨k+1,by omega,by go_num,uh HN⟩
           case measure=>first | (simp[intOf];omega) | simp[intOf]
         ·have hdd:=Hi (show (dd L).getD k []=[] from by rw[uh hdk,if_neg hfk0,List.drop_eq_nil_of_le (by rw[←uh Hq];omega)])
          clear hdk hfk0;have mj:(q:Int)<(cm:Int):=by omega
          have mi:min (cm:Int) (q:Int)=(q:Int):=by omega
          have N:=Hi (zcb (some ⟨bi,oi,none⟩) 0 0 [] wr (⟨rfl,lr _,(fun e=>by cases e),.inl rfl⟩) (by omega))
          have HX:=Hi (show (dd L).getD k []=[] from uh hdd)
          clear HR
          go_wp2_with fail
          refine (uh N).mono ?_
          rintro e w4 ⟨rfl,hln,hb4⟩;clear N;obtain⟨⟨u4v,c4⟩,f4,hnx⟩:=hI.step hkm hb4 hln (uh HX);have HN:=Hi hnx;clear hnx hln hb4 hI HX c1
          go_wp2
          go_roundw
          case rel=>exact⟨k+1,by omega,by go_num,uh HN⟩
          case measure=>first | (simp[intOf];omega) | simp[intOf]
       ·obtain rfl:k=m:=by omega
        have i7:¬(k:Int)<(k:Int):=by omega
        go_wp2
        go_ret
        rw[uh HDl];exact⟨G,rfl,hI.done (uh HDl),hI.bel⟩
     ·rw[hb2] at H2
      have Hb2:=Hi hb2;have hsf:s≠f:=fun e=>by rw[e] at hb2;rw[uh Hb] at hb2;cases hb2
      clear hb2
      go_wp2_with fail
      refine (uh H2).mono ?_
      rintro e w1 ⟨rfl,rfl⟩;clear H2 h1
      go_wp2_with fail
      refine⟨⟨s,by omega,by omega,by first | rfl | (congr 1;omega),trivial,Hi (fun j hj hj2=>?_)⟩,by simp only[intOf];omega⟩
      by_cases e:j=s
      ·rw[e];exact uh Hb2
      ·exact uh hT j (by omega) hj2
   ·rw[hb] at H2
    have Hb:=Hi hb;clear hb
    go_wp2_with fail
    refine (uh H2).mono ?_
    rintro e w1 ⟨rfl,rfl⟩;clear H2 h1
    go_wp2_with fail
    refine⟨⟨f+1,by omega,rfl,trivial,Hi (fun j hj=>?_)⟩,by simp only[intOf];omega⟩
    by_cases e:j=f
    ·rw[e];exact uh Hb
    ·exact uh hF j (by omega)
  ·obtain rfl:f=n:=by omega
   have HDl:=Hi (show dd L=[] from by
    have e:=zcJ L f f (lr _) (by rw[uh HL];exact lr _) (uh hF) (fun h=>by omega) (fun j hj hj2=>by rw[uh HL] at hj2;omega) (fun h=>by omega)
    rw[Nat.sub_self,List.take_zero] at e;unfold dd;rw[e]
    exact List.eq_nil_of_length_eq_zero (zfA _ _ _))
   have i1:¬(f:Int)<(f:Int):=by omega
   go_wp2_with fail
   go_loopw [4] (fun i wr=>i = .int .i64 f∧w=wr) (fun i _=>(intOf i).toNat)
   case atStart=>exact⟨rfl,rfl⟩
   case round =>
    obtain⟨rfl,rfl⟩:=hrel
    go_wp2_with fail
    refine (uh hC).mono ?_
    rintro e w1 ⟨rfl,b1⟩;clear hC;have hB1:=b1.size;have i5:(f:Int)≤(c:Int):=by omega
    by_cases hfc:f=c
    ·subst hfc
     go_wp2_with (first
      | (refine wpList_make_full _ rfl _ _ 183 rfl w.heap.size 109 i0 (.slice none 0 0) 1 underlying183 hi hz0 hz1 .i64 .i64 _ _ 0 rfl rfl (by omega) (by omega) (by rw[hz2];omega) (by unfold maxLen;omega) hB1 ?_;intro w2 hown hgrow;have hg1:=b1.trans ((belowNone hgrow).mono hB1);obtain⟨cur,hcur,hcz⟩:=zbM hown)
      | (refine wpList_copy_splice rfl _ _ 183 183 rfl 109 underlying183 sizeSS _ _ 0 0 0 0 rfl rfl w1.heap.size 0 cur.toList 109 hcur [] (by rfl) (fun hp=>by simp at hp) (by simp) (fun v hv=>by cases hv) w.heap.size w hg1 hB1 ?_;intro w3 hrow3 hb3))
     obtain⟨G,hG⟩:∃ G,G=w1.heap.size:=⟨_,rfl⟩
     have HG:=Hi (show G<w3.heap.size from by
      have:=hrow3.out
      rcases Nat.lt_or_ge w1.heap.size w3.heap.size with h | h
      ·omega
      ·rw[Array.getElem?_eq_none h] at this;cases this)
     rw[←hG];clear hG hrow3
     go_loopw [52] (fun i wr=>i = .int .i64 0∧w3=wr) (fun i _=>(intOf i).toNat)
     case atStart=>exact⟨rfl,rfl⟩
     case round =>
      obtain⟨rfl,rfl⟩:=hrel
      go_wp2
      go_ret
      rw[uh HDl];exact⟨G,rfl,Lns.nil0 (uh HG),hb3⟩
    ·have hfc2:f<c:=by omega
     go_wp2_with (first
      | (refine wpList_make_full _ rfl _ _ 183 rfl w.heap.size 109 i0 (.slice none 0 0) 1 underlying183 hi hz0 hz1 .i64 .i64 _ _ 0 rfl rfl (by omega) (by omega) (by rw[hz2];omega) (by unfold maxLen;omega) hB1 ?_;intro w2 hown hgrow;have hg1:=b1.trans ((belowNone hgrow).mono hB1);obtain⟨cur,hcur,hcz⟩:=zbM hown)
      | (refine wpList_copy_splice rfl _ _ 183 183 rfl 109 underlying183 sizeSS _ _ 0 0 0 0 rfl rfl w1.heap.size 0 cur.toList 109 hcur [] (by rfl) (fun hp=>by simp at hp) (by simp) (fun v hv=>by cases hv) w.heap.size w hg1 hB1 ?_;intro w3 hrow3 hb3))
     obtain⟨G,hG⟩:∃ G,G=w1.heap.size:=⟨_,rfl⟩
     have HG:=Hi (show G<w3.heap.size from by
      have:=hrow3.out
      rcases Nat.lt_or_ge w1.heap.size w3.heap.size with h | h
      ·omega
      ·rw[Array.getElem?_eq_none h] at this;cases this)
     rw[←hG];clear hG hrow3
     go_loopw [52] (fun i wr=>i = .int .i64 0∧w3=wr) (fun i _=>(intOf i).toNat)
     case atStart=>exact⟨rfl,rfl⟩
     case round =>
      obtain⟨rfl,rfl⟩:=hrel
      go_wp2
      go_ret
      rw[uh HDl];exact⟨G,rfl,Lns.nil0 (uh HG),hb3⟩
def sz:List (List Int)→Nat
 | []=>0
 | x::L=>x.length+1+sz L
theorem zkE(A B:List (List Int)):sz (A++B)=sz A+sz B:=by
 induction A with
 | nil=>simp[sz]
 | cons x A ih=>simp only[List.cons_append,sz,ih];omega
theorem zlb:∀ (L:List (List Int)),(jn L).length≤sz L-1
 | []=>by simp[jn]
 | [x]=>by simp[jn,sz]
 | x::y::r=>by
  have ih:=zlb (y::r);rw[jn,sz];simp only[List.length_append,List.length_cons];have:1≤sz (y::r):=by simp only[sz];omega
  omega
theorem zeC:∀ (L:List (List Int)),L.length≤sz L
 | []=>by simp[sz]
 | x::L=>by have:=zeC L;simp only[List.length_cons,sz];omega
theorem zfM:∀ (L:List (List Int)) (i:Nat),(L.getD i []).length≤sz L-1
 | [],i=>by simp
 | x::L,0=>by simp only[sz,List.getD_cons_zero];omega
 | x::L,i+1=>by
  have:=zfM L i;simp only[sz,List.getD_cons_succ];omega
theorem zir(c:Nat):∀ (L:List (List Int)),sz (L.map (List.drop c))≤sz L
 | []=>by simp[sz]
 | x::L=>by have:=zir c L;simp only[List.map_cons,sz,List.length_drop];omega
theorem zlV(f c:Nat)(L:List (List Int)):sz (cutF f c L)≤sz L:=by
 unfold cutF
 split
 ·cases L with
  | nil=>simp[cutL]
  | cons x L=>have:=zir c L;simp only[cutL,sz];omega
 ·exact zir c L
theorem zno(L:List (List Int)):sz (trm L)≤sz L:=by
 rcases zgi L with ⟨h,_⟩ | ⟨A,B,h,_⟩
 ·rw[h];simp[sz]
 ·have:sz L=sz (A++trm L++B):=by rw[←h]
  rw[this,zkE,zkE];omega
theorem znm(L:List (List Int)):sz (dd L)≤sz L:=Nat.le_trans (zlV _ _ _) (zno L)
theorem znn(c:Int)(L:List (List Int))(h:L≠[]):sz (pre c L)=sz L+1:=by
 cases L with
 | nil=>exact absurd rfl h
 | cons x L=>simp only[pre,sz,List.length_cons];omega
theorem zgd:∀ (l:List Int),sz (lns l)≤l.length+1
 | []=>by simp[lns,sz]
 | c::r=>by
  have ih:=zgd r;rw[lns]
  split
  ·simp only[sz,List.length_nil,List.length_cons];omega
  ·split
   ·split
    ·simp only[List.length_cons];omega
    ·simp only[sz,List.length_nil,List.length_cons];omega
   ·rw[znn c _ (zfT r),List.length_cons];omega
theorem zcO:∀ (k:Nat) (l:List Int) (q:Nat) (o:Bool) (r:List Int × Bool),lx.blkF k l q o=some r→r.1.length≤l.length
 | 0,l,q,o,r,h=>by
  unfold lx.blkF at h
  split at h
  ·simp at h;subst h;simp
  ·cases h
 | k+1,l,q,o,r,h=>by
  unfold lx.blkF at h
  split at h
  ·simp at h;subst h;simp
  ·rename_i h0
   split at h
   ·rename_i he
    have h4:=lx.ze5 l he
    cases e:lx.blkF k (l.drop 4) 0 false with
    | none=>rw[e] at h;cases h
    | some r2 =>
     rw[e] at h;simp at h;subst h;have:=zcO k _ _ _ _ e;simp at this ⊢;omega
   ·split at h
    ·split at h
     ·cases h
     ·cases e:lx.blkF k (l.drop 1) (q+1) true with
      | none=>rw[e] at h;cases h
      | some r2 =>
       rw[e] at h;simp at h;subst h;have:=zcO k _ _ _ _ e;simp at this ⊢;omega
    ·split at h
     ·cases h
     ·cases e:lx.blkF k (l.drop 1) 0 (decide (lx.cAt l 0=92)) with
      | none=>rw[e] at h;cases h
      | some r2 =>
       rw[e] at h;simp at h;subst h;have:=zcO k _ _ _ _ e;simp at this ⊢;omega
theorem zkL(l:List Int)(r:List Int × Bool)(h:lx.blk l=some r):r.1.length≤l.length:=zcO _ _ _ _ _ h
def bS(l:List Int):ByteArray:=match lx.blk l with
 | some (r,true)=>encS (jn (dd (lns r)))
 | _=>⟨#[]⟩
def bE(l:List Int):Int:=match lx.blk l with
 | some (_,true)=>0
 | _=>60
theorem ziG(a:Option Addr)(n c:Nat)(l:List Int)(w:World)(h:Row .i32 w a n c l)(hn:n≤1099511627776) :
  Calls prog 140 #[.slice a n c] w fun e w'=>e = .returned (.tuple #[.string (bS l),.int .i64 (bE l)])∧Below w.heap.size w w':=by
 have HB:=Hi (lx.zdL a n c l w h hn);have hl:=h.len;unfold bS bE;unfold lx.BlkPost at HB
 cases e:lx.blk l with
 | none =>
  rw[e] at HB;clear e
  go_enter func140,ntmps140
  go_wp2_with fail
  refine (uh HB).mono ?_
  rintro e w1 ⟨rfl,b1⟩;clear HB
  go_wp2
  go_ret2
  exact⟨rfl,b1⟩
 | some r =>
  have hr:=zkL l r e;rw[e] at HB;clear e;obtain⟨r,o⟩:=r;simp only at hr
  cases o with
  | false =>
   go_enter func140,ntmps140
   go_wp2_with fail
   refine (uh HB).mono ?_
   rintro e w1 ⟨⟨v,rfl,_⟩,b1⟩;clear HB
   go_wp2
   go_ret2
   exact⟨rfl,b1⟩
  | true =>
   have z1:=zgd r;have z2:=znm (lns r);have z3:=zlb (dd (lns r));have z4:=zeC (lns r);have z5:=zeC (dd (lns r));have z6:0<(lns r).length:=List.length_pos_iff.2 (zfT r);have HZ:=Hi (show ∀ i,((lns r).getD i []).length≤1099511627776 from fun i=>by have:=zfM (lns r) i;omega)
   go_enter func140,ntmps140
   go_wp2_with fail
   refine (uh HB).mono ?_
   rintro e w1 ⟨⟨v,rfl,hown⟩,b1⟩;clear HB;obtain⟨a1,c1,rfl,hrow⟩:=zay hown;clear hown;simp only
   go_wp2_with fail
   refine (zhv a1 _ c1 r w1 hrow (by omega)).mono ?_
   rintro e w2 ⟨v2,gs,rfl,hat,b2⟩;rw[zeD] at hat;obtain⟨b,c2,rfl,hln⟩:=zkk hat z6;clear hat;have b12:=b1.trans (b2.mono b1.size)
   generalize hL:lns r=L at *
   have HLr:=Hi hL;clear hL
   go_wp2_with fail
   refine (zg5 b _ c2 L w2 hln z6 (by omega) (uh HZ)).mono ?_
   rintro e w3 ⟨g,rfl,hln3,b3⟩;have b13:=b12.trans (b3.mono b12.size)
   generalize hD:dd L=D at *
   have HDr:=Hi hD;clear hD
   go_wp2_with fail
   refine (zhs g 0 _ _ D w3 hln3 (by omega) (by omega)).mono ?_
   rintro e w4 ⟨v4,rfl,hown4,b4⟩;have b14:=b13.trans (b4.mono b13.size);obtain⟨a4,c4,rfl,hrow4⟩:=zay hown4;clear hown4
   go_wp2_with fail
   refine (zaR a4 _ c4 (jn D) w4 hrow4 (by omega)).mono ?_
   rintro e w5 ⟨rfl,b5⟩;have b15:=b14.trans (b5.mono b14.size)
   go_wp2
   go_ret2
   exact⟨by rw[uh HLr,uh HDr];rfl,b15⟩
end sv
end Go.Proofs.YtepmbmbnlmbhhaaGreat
