import Derived.Test.YtifbkdicglcogaaGreatSjo9
import Derived.Laws.AppendOwnNone
set_option linter.unusedVariables false
set_option linter.unusedSimpArgs false
namespace Go.Proofs.YtifbkdicglcogaaGreat.lx
open Go.ChangeShapes Go.WideShapes Go.ChangeAt Go.RowKit
open ints (Hi uh hexV)
open mem
theorem zpa (l:List Int):(cdZ l).2≤l.length:=by
 unfold cdZ
 split
 ·exact Nat.zero_le _
 ·rename_i h
  have h6:=zd6 l (by omega)
  split
  ·exact h6
  ·split
   ·rename_i h2
    have:=zd6 (l.drop 6) (by omega)
    rw[List.length_drop] at this
    show 12≤l.length
    omega
   ·exact Nat.zero_le _
theorem znN (l:List Int):(escZ l).2≤l.length:=by
 unfold escZ
 split
 ·exact Nat.zero_le _
 ·split
  ·exact zpa l
  ·split
   ·exact Nat.zero_le _
   ·show 2≤l.length
    omega
theorem zok (l:List Int) (h:0<l.length):(pceZ l).2≤l.length:=by
 unfold pceZ
 split
 ·exact znN l
 ·split
  ·exact Nat.zero_le _
  ·exact h
def quoF:Nat→List Int→Option (List Int)
 | 0,l=>if l.length=0 then some [] else none
 | k+1,l=>if l.length=0 then some [] else if (pceZ l).2=0 then none else (quoF k (l.drop (pceZ l).2)).map ((pceZ l).1 :: ·)
def quo (l:List Int):Option (List Int):=quoF l.length l
def quoS (l:List Int):ByteArray:=match quo l with | some r=>encS r | none=>⟨#[]⟩
def quoE (l:List Int):Int:=match quo l with | some _=>0 | none=>60
theorem zlV (k:Nat) (l:List Int) (h:l.length=0):quoF k l=some []:=by
 cases k with
 | zero=>unfold quoF;rw[if_pos h]
 | succ k=>unfold quoF;rw[if_pos h]
theorem zcd (v:Value) (h:v.oneCell'=true):∀ u ∈ [v],u.oneCell'=true:=by intro u hu;simp at hu;subst hu;exact h
theorem cellv (w:World) (x:Value) (t:TypeId):∀ j u,[x][j]? = some u→(w.alloc (.cells #[x] t)).cell? ((⟨w.heap.size,0,none⟩:Addr).add j)=some u:=by
 intro j u hj
 match j,hj with
 | 0,hj=>simp at hj;subst hj;simp[Addr.add]
theorem zcB {P:Program} (w:World) {ops:Array Oper} {rest:List Oper} {o:Oper} {a:Act} {Q:Exit→Act→World→Prop} (hgd:o.guard=none) (s x:Operand) (t:TypeId)
  (ho:o.op = .call { callee:=.builtin .append,args:=#[s,x],argTypes:=#[t,t] })
  (base:Nat) (e:TypeId) (i:TypeInfo) (k:IntKind) (bytes:Nat) (ht:P.underlying t=some (.slice e)) (hi:P.info? e=some i) (hz:i.zero=some (.int k 0))
  (hsize:i.size=1) (hby:i.bytes=bytes)
  (v:Value) (n:Nat) (xs:List Value) (hs:a.eval s=v) (hown:w.ownsRow base e 1 v n xs) (u:Int)
  (hx:a.eval x = .slice (some ⟨w.heap.size,0,none⟩) 1 1)
  (h63:n+1≤maxLen) (hbytes:(n+1) * bytes≤140737488355328) (hbase:base≤w.heap.size)
  (h:∀ v' w',w'.ownsRow base e 1 v' (n+1) (xs ++ [.int k u])→Below base w w'→wpList P ops Q rest (a.put o.dst v') w') :
  wpList P ops Q (o :: rest) a (w.alloc (.cells #[.int k u] e)):=by
 refine wpList_append_own _ hgd s x t ho base e i (.int k 0) 1 bytes ht hi hz hsize hby rfl (by decide) v n xs hs (hown.alloc _) ⟨w.heap.size,0,none⟩ 1 1 [.int k u] hx rfl (cellv w _ e) (zcd _ rfl) h63 hbytes (by simp;omega) ?_
 intro v' w' ho' hg _;exact h v' w' ho' (((Below.refl _ _).alloc hbase _).grown hg (by simp;omega) (fun q hq=>(hown.lt q hq).1))
def slN (v:Value):Nat:=match v with | .slice _ m _=>m | _=>0
theorem zeC {w:World} {base:Nat} {e:TypeId} {v:Value} {n:Nat} {xs:List Value} (h:w.ownsRow base e 1 v n xs):∃ a c,v = .slice a n c:=by
 obtain⟨_,h2⟩:=h
 rcases h2 with ⟨rfl,rfl⟩ | ⟨g,cap,cur,rfl,_⟩
 ·exact⟨_,_,rfl⟩
 ·exact⟨_,_,rfl⟩
theorem zik {k:IntKind} {w:World} {b off n c:Nat} {l:List Int} (h:Row k w (some ⟨b,off,none⟩) n c l) (j:Nat) (hj:j=n):Row k w (some ⟨b,off,none⟩) (n - j) 0 (l.drop j):=
 ⟨by rw[List.length_drop,h.len],by omega,(fun e=>by cases e),.inl (by omega)⟩
set_option maxHeartbeats 4000000 in
set_option maxRecDepth 4000 in
theorem zky (a:Option Addr) (n c:Nat) (l:List Int) (w:World) (h:Row .i32 w a n c l) (hn:n≤1099511627776) (hs:∀ x ∈ l,scP x) :
  Calls Tryz.prog 82 #[.slice a n c] w fun e w'=>e = .returned (.tuple #[.string (quoS l),.int .i64 (quoE l)])∧Below w.heap.size w w':=by
 obtain⟨i0,hi,hz0,hz1,hz2⟩:=info_parts info32;have HS:=Hi hs;have HL:=Hi h.len;clear hs
 go_enter Tryz.func82,Tryz.ntmps82
 go_wp2_with fail
 go_loopw [0,4] (fun v ch wr=>∃ a' n' c' l' d fu,v = .slice a' n' c'∧Row .i32 w a' n' c' l'∧n'≤fu∧d.length+n'≤n∧Hid (quo l=(quoF fu l').map (d ++ ·))∧Hid (∀ x ∈ l',scP x)∧wr.ownsRow w.heap.size 21 1 ch d.length (d.map (Value.int .i32))∧Below w.heap.size w wr) (fun v _ _=>slN v)
 case atStart =>
  refine⟨a,n,c,l,[],n,rfl,h,lr _,by simp,Hi ?_,HS,World.ownsRow_nil _ _ _ _,Below.refl _ _⟩
  unfold quo;rw[uh HL];simp
 case round =>
  obtain⟨a1,n1,c1,l1,d,fu,rfl,hR,hfu,hdn,HQ,HS1,hown,hbel⟩:=hrel
  by_cases h0:0<n1
  ·have i0':(0:Int)<(n1:Int):=by omega
   have hl1:=hR.len;have hle1:=hR.le
   obtain⟨b,off,rfl⟩:∃ b off,a1=some ⟨b,off,none⟩:=by
    rcases hR.at_ with h1 | ⟨b,off,e,_⟩
    ·omega
    ·exact⟨b,off,e⟩
   obtain⟨f2,rfl⟩:∃ f2,fu=f2+1:=⟨fu - 1,by omega⟩
   have HP:=Hi (zlT _ n1 c1 l1 _ (hR.below hbel) h0 (by omega) (uh HS1))
   have hpl:=zok l1 (by omega)
   rw[hl1] at hpl
   have HQ2:=Hi (show quo l=(if (pceZ l1).2=0 then none else (quoF f2 (l1.drop (pceZ l1).2)).map ((pceZ l1).1 :: ·)).map (d ++ ·) from by
    rw[uh HQ]
    show (if l1.length=0 then some [] else if (pceZ l1).2=0 then none else (quoF f2 (l1.drop (pceZ l1).2)).map ((pceZ l1).1 :: ·)).map (d ++ ·)=_
    rw[if_neg (by omega)])
   have HRD:=Hi (fun (j:Nat) (hj:j≤n1)=>zfP hR j hj)
   have HRZ:=Hi (fun (j:Nat) (hj:j=n1)=>zik hR j hj)
   have HLL:=Hi hl1;clear hl1 HQ;obtain⟨X,hX⟩:∃ X,X=(pceZ l1).1:=⟨_,rfl⟩;obtain⟨L,hL⟩:∃ L,L=(pceZ l1).2:=⟨_,rfl⟩;rw[← hX,← hL] at HP HQ2;rw[← hL] at hpl;clear hX hL
   by_cases hL0:L=0
   ·have hq:=Hi (show quo l=none from by rw[uh HQ2,if_pos hL0];rfl)
    subst hL0;clear HQ2
    go_wp2_with fail
    refine (uh HP).mono ?_
    rintro e w1 ⟨rfl,hb1⟩
    go_wp2_with fail
    go_ret2
    exact⟨by rw[show quoS l=⟨#[]⟩ from by unfold quoS;rw[uh hq],show quoE l=60 from by unfold quoE;rw[uh hq]];rfl,hbel.trans (hb1.mono hbel.size)⟩
   ·have HQ3:=Hi (show quo l=(quoF f2 (l1.drop L)).map ((d ++ [X]) ++ ·) from by
     rw[uh HQ2,if_neg hL0,Option.map_map]
     congr 1
     funext r
     simp)
    have Li:¬ (L:Int)=0:=by omega
    have Lb:((L:Int) == 0)=false:=by simp;omega
    have L1:(L:Int)≤(n1:Int):=by omega
    have L2:(L:Int)≤(c1:Int):=by omega
    clear HQ2;obtain⟨aB,cB,rfl⟩:=zeC hown
    go_wp2_with fail
    refine (uh HP).mono ?_
    rintro e w1 ⟨rfl,hb1⟩;have hown1:=zay hown hb1;have hbs:=hbel.size;have hb1s:=hb1.size
    go_wp2_with (at_builtin;refine zcB _ rfl _ _ 78 rfl w.heap.size 21 i0 .i32 4 Tryz.underlying78 hi hz0 hz1 hz2 _ _ _ rfl hown1 _ rfl (by unfold maxLen;omega) (by omega) (by omega) ?_;intro v' wC hown' hbC)
    refine⟨⟨_,_,_,l1.drop L,d ++ [X],f2,rfl,?_,by omega,by rw[List.length_append];simp only[List.length_cons,List.length_nil];omega,HQ3,Hi (fun x hx=>uh HS1 x (List.mem_of_mem_drop hx)),?_,?_⟩,?_⟩
    ·by_cases hc1:c1=L
     ·rw[if_pos hc1]
      have hr:=uh HRZ L (by omega)
      rw[show c1 - L=0 by omega]
      exact hr
     ·rw[if_neg hc1]
      exact uh HRD L (by omega)
    ·rw[List.length_append,List.map_append]
     exact hown'
    ·exact (hbel.trans (hb1.mono hbs)).trans hbC
    ·show n1 - L<n1
     omega
  ·have hz:n1=0:=by omega
   subst hz;have hq:=Hi (show quo l=some d from by rw[uh HQ,zlV fu l1 hR.len];simp)
   obtain⟨aB,cB,rfl,hRd⟩:=zcR hown;have HE:=Hi (zbV aB d.length cB d _ hRd (by omega))
   clear HQ
   go_wp2_with fail
   refine (uh HE).mono ?_
   rintro e w1 ⟨rfl,hb1⟩
   go_wp2_with fail
   go_ret2
   exact⟨by rw[show quoS l=encS d from by unfold quoS;rw[uh hq],show quoE l=0 from by unfold quoE;rw[uh hq]];rfl,hbel.trans (hb1.mono hbel.size)⟩
open ints (Hi uh)
open mem (Row)
def tq (l:List Int) (i:Nat):Bool:=decide (cAt l i=34∧cAt l (i+1)=34∧cAt l (i+2)=34)
set_option maxHeartbeats 2000000 in
set_option maxRecDepth 4000 in
theorem zqm (a:Option Addr) (n c:Nat) (cl:Bool) (l:List Int) (i:Nat) (w:World) (h:Row .i32 w a n c l) (hn:n≤1099511627776) (hi:i≤1099511627780) :
  Calls Tryz.prog 62 #[src a n c cl,.int .i64 (i:Int)] w fun e w'=>e = .returned (.bool (tq l i))∧Below w.heap.size w w':=by
 have hsb:=Hi (Sb.new w a n c cl);have hA:=Hi (fun W (hb:Below w.heap.size w W) (k:Nat)=>zd3 a n c cl l k W (h.below hb) (by omega))
 obtain⟨R,hR⟩:∃ R,R=tq l i:=⟨_,rfl⟩;rw[← hR];have HR:=Hi hR;clear hR;unfold src at hA ⊢
 go_enter Tryz.func62,Tryz.ntmps62
 go_wp2_with fail
 obtain⟨w1,hw1⟩:∃ w1,w1=w.alloc (.cells #[.slice a n c,.bool cl] 82):=⟨_,rfl⟩;rw[← hw1] at hsb ⊢;clear hw1
 go_loopg [6] 4 (fun g vi wr=>∃ k:Nat,k≤3∧4≤g+k∧vi = .int .i64 k∧Hid (∀ j,j<k→cAt l (i+j)=34)∧Sb w wr a n c cl)
 case atStart=>exact⟨0,by omega,by omega,rfl,Hi (fun j hj=>by omega),uh hsb⟩
 case round =>
  obtain⟨k,hk,hg,rfl,hq,hs⟩:=hrel;have d0:=hs.c0;have d1:=hs.c1
  by_cases hlt:k<3
  ·have k3:(k:Int)<3:=by omega
   go_wp2_with fail
   rw[show ((i:Int)+(k:Int))=((i+k:Nat):Int) by omega]
   refine ((uh hA) wr hs.bel (i+k)).mono ?_
   rintro e w2 ⟨rfl,b2⟩;have hs2:=hs.below b2;obtain⟨x,ex⟩:∃ x,x=cAt l (i+k):=⟨_,rfl⟩;rw[← ex];have Hx:=Hi ex.symm;clear ex d0 d1 hs
   by_cases h34:x=34
   ·subst h34
    go_wp2_with fail
    go_roundg (gk - 1)
    case rel=>exact⟨k+1,by omega,by omega,by go_num,Hi (fun j hj=>by
     by_cases e:j<k
     ·exact uh hq j e
     ·obtain rfl:j=k:=by omega
      exact uh Hx),hs2⟩
    case measure=>omega
   ·have e34:(x != 34)=true:=by simpa using h34
    have hf:=Hi (show R=false from by
     rw[uh HR];unfold tq;rw[decide_eq_false_iff_not];rintro ⟨e0,e1,e2⟩
     apply h34
     rw[← uh Hx];have:k=0∨k=1∨k=2:=by omega
     rcases this with rfl | rfl | rfl
     ·exact e0
     ·exact e1
     ·exact e2)
    clear h34
    go_wp2_with fail
    go_ret
    exact⟨by rw[uh hf];rfl,hs2.bel⟩
  ·obtain rfl:k=3:=by omega
   have hf:=Hi (show R=true from by
    rw[uh HR];unfold tq
    exact decide_eq_true ⟨uh hq 0 (by omega),uh hq 1 (by omega),uh hq 2 (by omega)⟩)
   go_wp2_with fail
   go_ret
   exact⟨by rw[uh hf];rfl,hs.bel⟩
def endQ (l:List Int):Nat→Nat→Option Nat
 | 0,_=>none
 | k+1,i=>if cAt l i=34 then some i
  else if cAt l i=92 then (if cAt l (i+1)=10∨cAt l (i+1)=13∨soB (cAt l (i+1))=false then none else endQ l k (i+2))
  else if cAt l i=10∨cAt l i=13∨soB (cAt l i)=false then none else endQ l k (i+1)
def insZ (l:List Int) (p i:Nat):List Int:=(l.drop p).take (i - p)
def qtdR (l:List Int) (p:Nat) (R:Option Nat):Int × Nat × ByteArray:=
 match R with
 | none=>(1,p,⟨#[]⟩)
 | some i=>match quo (insZ l (p+1) i) with
  | none=>(1,p,⟨#[]⟩)
  | some r=>(6,i+1,encS r)
def qtd (l:List Int) (p:Nat):Int × Nat × ByteArray:=qtdR l p (endQ l (l.length+2) (p+1))
theorem zhB (l:List Int) (i:Nat) (h:soB (cAt l i)=true):i<l.length:=by
 by_cases hi:i<l.length
 ·exact hi
 ·unfold cAt at h
  rw[if_neg hi] at h;exact absurd h (by decide)
theorem zjj (l:List Int) (i:Nat) (h:cAt l i=34):i<l.length:=by
 by_cases hi:i<l.length
 ·exact hi
 ·unfold cAt at h
  rw[if_neg hi] at h;omega
theorem zfQ {k:IntKind} {w:World} {b off n c:Nat} {l:List Int} (h:Row k w (some ⟨b,off,none⟩) n c l) (p i:Nat) (hp:p≤i) (hi:i≤n):Row k w (some ⟨b,off+p,none⟩) (i - p) (c - p) (insZ l p i):=by
 have hl:=h.len;have hle:=h.le;refine⟨by unfold insZ;rw[List.length_take,List.length_drop,hl];omega,by omega,(fun e=>by cases e),?_⟩
 rcases h.at_ with h0 | ⟨b',off',he,hb,hc⟩
 ·exact .inl (by omega)
 ·simp only[Option.some.injEq,Addr.mk.injEq] at he
  obtain⟨rfl,rfl,_⟩:=he;refine .inr ⟨b,off+p,rfl,hb,fun j hj=>?_⟩
  have:=hc (p+j) (by omega)
  rw[show off+p+j=off+(p+j) from by omega,this]
  unfold insZ;simp[List.getD,hj]
def eqB (l:List Int):Bool:=decide (cAt l 0=92∧cAt l 1=34∧cAt l 2=34∧cAt l 3=34)
def tqc (j:Nat):Int:=if j=0 then 92 else 34
theorem zql (p:Nat) (h:p<4):Utf8.decode ⟨#[92,34,34,34]⟩ p=((tqc p).toNat,1):=by
 have e:∀ j:Fin 4,Utf8.decode ⟨#[92,34,34,34]⟩ j.val=((tqc j.val).toNat,1):=by decide +kernel
 exact e ⟨p,h⟩
theorem zg2 (l:List Int):eqB l=true ↔ ∀ j,j<4→cAt l j=tqc j:=by
 unfold eqB;rw[decide_eq_true_iff]
 constructor
 ·rintro ⟨e0,e1,e2,e3⟩ j hj
  have:j=0∨j=1∨j=2∨j=3:=by omega
  rcases this with rfl | rfl | rfl | rfl
  ·exact e0
  ·exact e1
  ·exact e2
  ·exact e3
 ·intro h
  exact⟨h 0 (by omega),h 1 (by omega),h 2 (by omega),h 3 (by omega)⟩
set_option maxHeartbeats 4000000 in
set_option maxRecDepth 100000 in
theorem znO (a:Option Addr) (n c:Nat) (l:List Int) (w:World) (h:Row .i32 w a n c l) (hn:n≤1099511627776) :
  Calls Tryz.prog 125 #[.slice a n c] w fun e w'=>e = .returned (.bool (eqB l))∧Below w.heap.size w w':=by
 have hl:=Hi h.len;have hle:=h.le;obtain⟨R,hR⟩:∃ R,R=eqB l:=⟨_,rfl⟩;rw[← hR];have HR:=Hi (show R=true ↔ ∀ j,j<4→cAt l j=tqc j from by rw[hR];exact zg2 l)
 clear hR;have hsz:(⟨#[92,34,34,34]⟩:ByteArray).size=4:=rfl;have hde:=zql;obtain⟨s,hS⟩:∃ s,s=(⟨#[92,34,34,34]⟩:ByteArray):=⟨_,rfl⟩
 go_enter Tryz.func125,Tryz.ntmps125
 rw[← hS] at hsz hde ⊢;have HD:=Hi hde;clear hS hde
 go_wp2_with fail
 have HRW:=Hi (fun pos=>h.below ((Below.refl w.heap.size w).alloc (lr _) _:Below w.heap.size w (w.iter s pos)))
 go_loopw [3] (fun _ wr=>∃ pos:Nat,wr=w.iter s pos∧pos≤4∧pos≤n∧Hid (∀ j,j<pos→cAt l j=tqc j)) (fun _ wr=>4 - wr.iterPos w.heap.size)
 case atStart=>exact⟨0,rfl,by omega,by omega,Hi (fun j hj=>by omega)⟩
 case round =>
  obtain⟨pos,rfl,hpl,hpn,hq⟩:=hrel
  by_cases hp:pos<4
  ·have hdec:=uh HD pos hp
   have hnx:∀ ty,(Instr.next (.pointer (some ⟨w.heap.size,0,none⟩)) true ty).run Tryz.prog (w.iter s pos) = .ok (.tuple #[.bool true,.int .i64 pos,.int .i32 (tqc pos)]) (w.iter s (pos+1)):=fun ty=>by
    have:=run_next_any (P:=Tryz.prog) w s pos ty (by omega)
    rw[hdec] at this;rw[show ((tqc pos).toNat:Int)=tqc pos from by unfold tqc;split <;> rfl] at this
    exact this
   clear hdec
   by_cases hpe:pos=n
   ·have hf:=Hi (show R=false from by
     cases hR:R with
     | false=>rfl
     | true =>
      have e:=(uh HR).1 hR pos hp;unfold cAt at e;rw[if_neg (by rw[uh hl];omega)] at e
      unfold tqc at e
      split at e <;> omega)
    subst hpe;clear HR hq
    go_wp2_with fail
    go_ret
    exact⟨by rw[uh hf];rfl,ba⟩
   ·have pe:((pos:Int) == (n:Int))=false:=by simp;omega
    have pn:¬ (pos:Int)=(n:Int):=by omega
    have pl:(pos:Int)<(n:Int):=by omega
    rcases (uh HRW (pos+1)).at_ with h0 | ⟨b,off,rfl,hb,hc⟩
    ·omega
    have c0:=hc pos (by omega)
    obtain⟨x,hx⟩:∃ x,x=l.getD pos 0:=⟨_,rfl⟩;have Hx:=Hi (show cAt l pos=x from by unfold cAt;rw[if_pos (by rw[uh hl];omega),hx])
    rw[← hx] at c0;have c1:(w.iter s (pos+1)).cell? ⟨b,off+pos,none⟩=some (.int .i32 x):=c0;clear c0 hb;obtain⟨y,hy⟩:∃ y,y=tqc pos:=⟨_,rfl⟩;rw[← hy] at hnx;have Hy:=Hi hy;clear hx hc hpe hy
    by_cases hxy:x=y
    ·have hq2:=Hi (show ∀ j,j<pos+1→cAt l j=tqc j from fun j hj=>by
      by_cases e:j<pos
      ·exact uh hq j e
      ·obtain rfl:j=pos:=by omega
       rw[uh Hx,hxy,uh Hy])
     subst hxy;clear HR hq Hx Hy
     go_wp2_with fail
     refine⟨⟨pos+1,rfl,by omega,by omega,hq2⟩,?_⟩
     simp;omega
    ·have e1:(x != y)=true:=by simpa using hxy
     have hf:=Hi (show R=false from by
      cases hR:R with
      | false=>rfl
      | true =>
       have e:=(uh HR).1 hR pos hp;rw[uh Hx,← uh Hy] at e
       exact absurd e hxy)
     clear HR hq Hx Hy
     go_wp2_with fail
     go_ret
     exact⟨by rw[uh hf];rfl,ba⟩
  ·have hnx:∀ ty,(Instr.next (.pointer (some ⟨w.heap.size,0,none⟩)) true ty).run Tryz.prog (w.iter s pos) = .ok (.tuple #[.bool false]) (w.iter s pos):=fun ty=>run_next_end (P:=Tryz.prog) w s pos ty (by omega)
   have hf:=Hi (show R=true from (uh HR).2 (fun j hj=>uh hq j (by omega)))
   clear HR hq
   go_wp2_with fail
   go_ret
   exact⟨by rw[uh hf];rfl,ba⟩
def blkF:Nat→List Int→Nat→Bool→Option (List Int × Bool)
 | 0,l,q,o=>if l.length=0 then some ([],!o) else none
 | k+1,l,q,o =>
  if l.length=0 then some ([],!o)
  else if eqB l=true then (blkF k (l.drop 4) 0 false).map (fun r=>(34 :: 34 :: 34 :: r.1,r.2))
  else if cAt l 0=34 then (if q=2∨soB 34=false then none else (blkF k (l.drop 1) (q+1) true).map (fun r=>(34 :: r.1,r.2)))
  else if soB (cAt l 0)=false then none
  else (blkF k (l.drop 1) 0 (decide (cAt l 0=92))).map (fun r=>(cAt l 0 :: r.1,r.2))
def blk (l:List Int):Option (List Int × Bool):=blkF l.length l 0 false
theorem zk0 (k:Nat) (l:List Int) (q:Nat) (o:Bool) (h:l.length=0):blkF k l q o=some ([],!o):=by
 cases k with
 | zero=>unfold blkF;rw[if_pos h]
 | succ k=>unfold blkF;rw[if_pos h]
theorem zg3 (l:List Int) (h:eqB l=true):4≤l.length:=by
 have e:=(zg2 l).1 h 3 (by omega)
 by_cases h4:3<l.length
 ·omega
 ·unfold cAt at e
  rw[if_neg h4] at e;exact absurd e (by decide)
theorem znM (l:List Int) (h:eqB l=true):insZ l 1 4=[34,34,34]:=by
 have h4:=zg3 l h;have e:=(zg2 l).1 h;have e1:=e 1 (by omega)
 have e2:=e 2 (by omega)
 have e3:=e 3 (by omega)
 match l,h4,e1,e2,e3 with
 | a :: b :: c :: d :: r,_,e1,e2,e3 =>
  have e1:b=34:=by simpa[cAt,tqc] using e1
  have e2:c=34:=by simpa[cAt,tqc] using e2
  have e3:d=34:=by simpa[cAt,tqc] using e3
  subst e1 e2 e3;rfl
theorem zdq {P:Program} (w:World) {ops:Array Oper} {rest:List Oper} {o:Oper} {a:Act} {Q:Exit→Act→World→Prop} (hgd:o.guard=none) (s x:Operand) (t:TypeId)
  (ho:o.op = .call { callee:=.builtin .append,args:=#[s,x],argTypes:=#[t,t] })
  (base:Nat) (e:TypeId) (i:TypeInfo) (k:IntKind) (bytes:Nat) (ht:P.underlying t=some (.slice e)) (hi:P.info? e=some i) (hz:i.zero=some (.int k 0))
  (hsize:i.size=1) (hby:i.bytes=bytes)
  (v:Value) (n:Nat) (xs:List Value) (hs:a.eval s=v) (hown:w.ownsRow base e 1 v n xs)
  (ad:Option Addr) (m c:Nat) (zs:List Int) (hx:a.eval x = .slice ad m c) (hrow:Row k w ad m c zs)
  (h63:n+m≤maxLen) (hbytes:(n+m) * bytes≤140737488355328) (hbase:base≤w.heap.size)
  (h:∀ v' w',w'.ownsRow base e 1 v' (n+m) (xs ++ zs.map (Value.int k))→Below base w w'→wpList P ops Q rest (a.put o.dst v') w') :
  wpList P ops Q (o :: rest) a w:=by
 cases ad with
 | none =>
  have hc:=hrow.nil rfl;have hm:m=0:=by have:=hrow.le;omega
  subst hc hm;have hz0:zs=[]:=List.eq_nil_of_length_eq_zero hrow.len;subst hz0;exact wpList_append_own_none hgd s x t ho base e i 1 ht hi v n xs hs hown hx (h v w (by simpa using hown) (Below.refl _ _))
 | some ad =>
  refine wpList_append_own w hgd s x t ho base e i (.int k 0) 1 bytes ht hi hz hsize hby rfl (by decide) v n xs hs hown ad m c (zs.map (Value.int k)) hx (by simp[hrow.len]) (hrow.cells ad rfl) (ints_oneCell _ _) h63 hbytes hbase ?_
  intro v' w' ho' hg _;exact h v' w' ho' ((Below.refl _ _).grown hg hbase (fun q hq=>(hown.lt q hq).1))
def BlkPost (w:World) (l:List Int) (e:Ending) (w':World):Prop:=
 match blk l with
 | none=>e = .returned (.tuple #[.slice none 0 0,.bool false])
 | some r=>∃ v,e = .returned (.tuple #[v,.bool r.2])∧w'.ownsRow w.heap.size 21 1 v r.1.length (r.1.map (Value.int .i32))
theorem zk8 {l:List Int} (h:0<l.length):cAt l 0=l.getD 0 0:=by unfold cAt;rw[if_pos h]
set_option maxHeartbeats 4000000 in
set_option maxRecDepth 4000 in
theorem zfh (a:Option Addr) (n c:Nat) (l:List Int) (w:World) (h:Row .i32 w a n c l) (hn:n≤1099511627776) :
  Calls Tryz.prog 100 #[.slice a n c] w fun e w'=>BlkPost w l e w'∧Below w.heap.size w w':=by
 obtain⟨i0,hi,hz0,hz1,hz2⟩:=info_parts info32;have HL:=Hi h.len
 go_enter Tryz.func100,Tryz.ntmps100
 go_wp2_with fail
 go_loopw [0,4,5,6] (fun v ch qv ov wr=>∃ a' n' c' l' d fu q o,v = .slice a' n' c'∧Row .i32 w a' n' c' l'∧n'≤fu∧d.length+n'≤n∧q≤2∧qv = .int .i64 (q:Nat)∧ov = .bool o∧Hid (blk l=(blkF fu l' q o).map (fun r=>(d ++ r.1,r.2)))∧wr.ownsRow w.heap.size 21 1 ch d.length (d.map (Value.int .i32))∧Below w.heap.size w wr) (fun v _ _ _ _=>slN v)
 case atStart =>
  refine⟨a,n,c,l,[],n,0,false,rfl,h,lr _,by simp,by omega,rfl,rfl,Hi ?_,World.ownsRow_nil _ _ _ _,Below.refl _ _⟩
  unfold blk;rw[uh HL];simp
 case round =>
  obtain⟨a1,n1,c1,l1,d,fu,q,o,rfl,hR,hfu,hdn,hq2,rfl,rfl,HQ,hown,hbel⟩:=hrel
  by_cases h0:0<n1
  ·have i0':(0:Int)<(n1:Int):=by omega
   have hl1:=hR.len;have hle1:=hR.le
   obtain⟨b,off,rfl⟩:∃ b off,a1=some ⟨b,off,none⟩:=by
    rcases hR.at_ with h1 | ⟨b,off,e,_⟩
    ·omega
    ·exact⟨b,off,e⟩
   obtain⟨f2,rfl⟩:∃ f2,fu=f2+1:=⟨fu - 1,by omega⟩
   have HE:=Hi (znO _ n1 c1 l1 _ (hR.below hbel) (by omega))
   have HQ2:=Hi (show blk l=(if eqB l1=true then (blkF f2 (l1.drop 4) 0 false).map (fun r=>(34 :: 34 :: 34 :: r.1,r.2))
     else if cAt l1 0=34 then (if q=2∨soB 34=false then none else (blkF f2 (l1.drop 1) (q+1) true).map (fun r=>(34 :: r.1,r.2)))
     else if soB (cAt l1 0)=false then none
     else (blkF f2 (l1.drop 1) 0 (decide (cAt l1 0=92))).map (fun r=>(cAt l1 0 :: r.1,r.2))).map (fun r=>(d ++ r.1,r.2)) from by
    rw[uh HQ]
    conv=>lhs;unfold blkF
    rw[if_neg (by omega)])
   have HRD:=Hi (fun (j:Nat) (hj:j≤n1)=>zfP hR j hj)
   have HRZ:=Hi (fun (j:Nat) (hj:j=n1)=>zik hR j hj)
   have HLL:=Hi hl1;clear hl1 HQ;obtain⟨aB,cB,rfl⟩:=zeC hown
   cases hE:eqB l1 with
   | true =>
    have h4:4≤n1:=by rw[← uh HLL];exact zg3 l1 hE
    have HM:=Hi (zfQ hR 1 4 (by omega) h4)
    rw[znM l1 hE] at HM
    have HQ3:=Hi (show blk l=(blkF f2 (l1.drop 4) 0 false).map (fun r=>((d ++ [34,34,34]) ++ r.1,r.2)) from by
     rw[uh HQ2,if_pos hE,Option.map_map]
     congr 1
     funext r
     simp)
    rw[hE] at HE;clear HQ2 hE;have k4:(4:Int)≤(n1:Int):=by omega
    have k4c:(4:Int)≤(c1:Int):=by omega
    have pc:¬ c1=1:=by omega
    go_wp2_with fail
    refine (uh HE).mono ?_
    rintro e w1 ⟨rfl,hb1⟩;have hown1:=zay hown hb1;have hbs:=hbel.size;have hb1s:=hb1.size
    go_wp2_with (at_builtin;refine zdq _ rfl _ _ 78 rfl w.heap.size 21 i0 .i32 4 Tryz.underlying78 hi hz0 hz1 hz2 _ _ _ rfl hown1 _ _ _ [34,34,34] rfl (((uh HM).below hbel).below hb1) (by unfold maxLen;omega) (by omega) (by omega) ?_;intro v' wC hown' hbC)
    refine⟨⟨_,_,_,l1.drop 4,d ++ [34,34,34],f2,0,false,rfl,?_,by omega,by rw[List.length_append];simp only[List.length_cons,List.length_nil];omega,by omega,by go_num,rfl,HQ3,?_,?_⟩,?_⟩
    ·by_cases hc1:c1=4
     ·rw[if_pos hc1]
      have hr:=uh HRZ 4 (by omega)
      rw[show c1 - 4=0 by omega]
      exact hr
     ·rw[if_neg hc1]
      exact uh HRD 4 (by omega)
    ·rw[List.length_append,List.map_append]
     exact hown'
    ·exact (hbel.trans (hb1.mono hbs)).trans hbC
    ·show n1 - 4<n1
     omega
   | false =>
    have k1:(1:Int)≤(n1:Int):=by omega
    have k1c:(1:Int)≤(c1:Int):=by omega
    rw[hE] at HE;have hx0:cAt l1 0=l1.getD 0 0:=zk8 (by rw[uh HLL];exact h0)
    obtain⟨x,hx⟩:∃ x,x=cAt l1 0:=⟨_,rfl⟩
    have HQ5:=Hi (show blk l=(if x=34 then (if q=2∨soB 34=false then none else (blkF f2 (l1.drop 1) (q+1) true).map (fun r=>(34 :: r.1,r.2)))
     else if soB x=false then none
     else (blkF f2 (l1.drop 1) 0 (decide (x=92))).map (fun r=>(x :: r.1,r.2))).map (fun r=>(d ++ r.1,r.2)) from by
      rw[uh HQ2,if_neg (by rw[hE];decide),hx])
    have HC:=Hi (show ∀ W,Below w.heap.size w W→W.cell? ⟨b,off,none⟩=some (.int .i32 x) from fun W hW=>by
     rcases (hR.below hW).at_ with h1 | ⟨b',off',e,_,hc⟩
     ·omega
     ·simp only[Option.some.injEq,Addr.mk.injEq] at e
      obtain⟨rfl,rfl,_⟩:=e;have:=hc 0 h0;rw[hx,hx0]
      exact this)
    clear HQ2 hE hx hx0
    by_cases h34:x=34
    ·subst h34
     have S:=Hi (fun W=>zbj 34 W)
     rw[show soB 34=true from by decide] at S
     by_cases hq3:q=2
     ·have hf:=Hi (show blk l=none from by rw[uh HQ5,if_pos rfl,if_pos (.inl hq3)];rfl)
      subst hq3;clear HQ5
      go_wp2_with fail
      refine (uh HE).mono ?_
      rintro e w1 ⟨rfl,hb1⟩;have hcl:=uh HC w1 (hbel.trans (hb1.mono hbel.size))
      go_wp2_with fail
      go_ret2
      exact⟨by unfold BlkPost;rw[uh hf];rfl,hbel.trans (hb1.mono hbel.size)⟩
     ·have HQ3:=Hi (show blk l=(blkF f2 (l1.drop 1) (q+1) true).map (fun r=>((d ++ [34]) ++ r.1,r.2)) from by
       rw[uh HQ5,if_pos rfl,if_neg (fun e=>by rcases e with e | e;exact hq3 e;exact absurd e (by decide)),Option.map_map]
       congr 1
       funext r
       simp)
      have q3:(((q:Int)+1) == 3)=false:=by simp;omega
      have q3':¬ ((q:Int)+1)=3:=by omega
      clear HQ5
      go_wp2_with fail
      refine (uh HE).mono ?_
      rintro e w1 ⟨rfl,hb1⟩;have hcl:=uh HC w1 (hbel.trans (hb1.mono hbel.size));have hown1:=zay hown hb1;have hbs:=hbel.size;have hb1s:=hb1.size
      go_wp2_with fail
      refine (uh S _).mono ?_
      rintro e w2 ⟨rfl,rfl⟩
      go_wp2_with (at_builtin;refine zcB _ rfl _ _ 78 rfl w.heap.size 21 i0 .i32 4 Tryz.underlying78 hi hz0 hz1 hz2 _ _ _ rfl hown1 _ rfl (by unfold maxLen;omega) (by omega) (by omega) ?_;intro v' wC hown' hbC)
      refine⟨⟨_,_,_,l1.drop 1,d ++ [34],f2,q+1,true,rfl,?_,by omega,by rw[List.length_append];simp only[List.length_cons,List.length_nil];omega,by omega,by go_num,rfl,HQ3,?_,?_⟩,?_⟩
      ·by_cases hc1:c1=1
       ·rw[if_pos hc1]
        have hr:=uh HRZ 1 (by omega)
        rw[show c1 - 1=0 by omega]
        exact hr
       ·rw[if_neg hc1]
        exact uh HRD 1 (by omega)
      ·rw[List.length_append,List.map_append]
       exact hown'
      ·exact (hbel.trans (hb1.mono hbs)).trans hbC
      ·show n1 - 1<n1
       omega
    ·have e34:(x == 34)=false:=by simp;exact h34
     have S:=Hi (fun W=>zbj x W)
     cases hsx:soB x with
     | false =>
      have hf:=Hi (show blk l=none from by rw[uh HQ5,if_neg h34,if_pos hsx];rfl)
      rw[hsx] at S;clear HQ5 hsx
      go_wp2_with fail
      refine (uh HE).mono ?_
      rintro e w1 ⟨rfl,hb1⟩;have hcl:=uh HC w1 (hbel.trans (hb1.mono hbel.size))
      go_wp2_with fail
      refine (uh S _).mono ?_
      rintro e w2 ⟨rfl,rfl⟩
      go_wp2_with fail
      go_ret2
      exact⟨by unfold BlkPost;rw[uh hf];rfl,hbel.trans (hb1.mono hbel.size)⟩
     | true =>
      have HQ3:=Hi (show blk l=(blkF f2 (l1.drop 1) 0 (decide (x=92))).map (fun r=>((d ++ [x]) ++ r.1,r.2)) from by
       rw[uh HQ5,if_neg h34,if_neg (by rw[hsx];decide),Option.map_map]
       congr 1
       funext r
       simp)
      rw[hsx] at S;clear HQ5 hsx
      go_wp2_with fail
      refine (uh HE).mono ?_
      rintro e w1 ⟨rfl,hb1⟩;have hcl:=uh HC w1 (hbel.trans (hb1.mono hbel.size));have hown1:=zay hown hb1;have hbs:=hbel.size;have hb1s:=hb1.size
      go_wp2_with fail
      refine (uh S _).mono ?_
      rintro e w2 ⟨rfl,rfl⟩
      go_wp2_with (at_builtin;refine zcB _ rfl _ _ 78 rfl w.heap.size 21 i0 .i32 4 Tryz.underlying78 hi hz0 hz1 hz2 _ _ _ rfl hown1 _ rfl (by unfold maxLen;omega) (by omega) (by omega) ?_;intro v' wC hown' hbC)
      refine⟨⟨_,_,_,l1.drop 1,d ++ [x],f2,0,decide (x=92),rfl,?_,by omega,by rw[List.length_append];simp only[List.length_cons,List.length_nil];omega,by omega,by go_num,rfl,HQ3,?_,?_⟩,?_⟩
      ·by_cases hc1:c1=1
       ·rw[if_pos hc1]
        have hr:=uh HRZ 1 (by omega)
        rw[show c1 - 1=0 by omega]
        exact hr
       ·rw[if_neg hc1]
        exact uh HRD 1 (by omega)
      ·rw[List.length_append,List.map_append]
       exact hown'
      ·exact (hbel.trans (hb1.mono hbs)).trans hbC
      ·show n1 - 1<n1
       omega
  ·have hz:n1=0:=by omega
   subst hz;have hq:=Hi (show blk l=some (d,!o) from by rw[uh HQ,zk0 fu l1 q o hR.len];simp)
   obtain⟨aB,cB,rfl⟩:=zeC hown;clear HQ
   go_wp2_with fail
   go_ret2
   exact⟨by unfold BlkPost;rw[uh hq];exact⟨_,rfl,hown⟩,hbel⟩
def endB (l:List Int):Nat→Nat→Option Nat
 | 0,_=>none
 | k+1,i=>if tq l i=true then some i
  else if cAt l i=92∧tq l (i+1)=true then endB l k (i+4)
  else if soB (cAt l i)=false then none else endB l k (i+1)
def blcR (bS:List Int→ByteArray) (l:List Int) (p:Nat) (R:Option Nat):Int × Nat × ByteArray:=
 match R with
 | none=>(1,p,⟨#[]⟩)
 | some i=>(7,i+3,bS (insZ l (p+3) i))
def blc (bS:List Int→ByteArray) (l:List Int) (p:Nat):Int × Nat × ByteArray:=blcR bS l p (endB l (l.length+2) (p+3))
theorem zgQ (l:List Int) (i:Nat) (h:tq l i=true):i+2<l.length:=by
 unfold tq at h;exact zjj l (i+2) (of_decide_eq_true h).2.2
set_option maxHeartbeats 4000000 in
set_option maxRecDepth 4000 in
theorem zo4 (bS:List Int→ByteArray) (bE:List Int→Int)
  (hB:∀ (a:Option Addr) (n c:Nat) (l:List Int) (w:World),Row .i32 w a n c l→n≤1099511627776→(∀ x ∈ l,scP x)→Calls Tryz.prog 81 #[.slice a n c] w fun e w'=>e = .returned (.tuple #[.string (bS l),.int .i64 (bE l)])∧Below w.heap.size w w')
  (a:Option Addr) (n c:Nat) (cl:Bool) (l:List Int) (p:Nat) (w:World) (h:Row .i32 w a n c l) (hn:n≤1099511627776) (hp:p+3≤n) (hs:∀ x ∈ l,scP x) :
  Calls Tryz.prog 63 #[src a n c cl,.int .i64 (p:Int)] w fun e w'=>e = .returned (.tuple #[.int .i64 (blc bS l p).1,.int .i64 ((blc bS l p).2.1:Int),.string (blc bS l p).2.2])∧Below w.heap.size w w':=by
 have hl:=Hi h.len;have hle:=h.le;have HB0:=Hi hB;clear hB
 obtain⟨b,off,rfl⟩:∃ b off,a=some ⟨b,off,none⟩:=by
  rcases h.at_ with h1 | ⟨b,off,e,_⟩
  ·omega
  ·exact⟨b,off,e⟩
 have HS:=Hi hs;clear hs;obtain⟨R,hR⟩:∃ R,R=endB l (n+2) (p+3):=⟨_,rfl⟩;have HQ:=Hi (show blc bS l p=blcR bS l p R from by unfold blc;rw[uh hl,hR])
 have HR:=Hi hR.symm;clear hR;have hA:=Hi (fun W (hb:Below w.heap.size w W) (k:Nat) (hk:k≤n+1)=>zd3 _ n c cl l k W (h.below hb) (by omega))
 have hT:=Hi (fun W (hb:Below w.heap.size w W) (k:Nat) (hk:k≤n+1)=>zqm _ n c cl l k W (h.below hb) hn (by omega))
 have hsb:=Hi (Sb.new w (some ⟨b,off,none⟩) n c cl);unfold src at hA hT ⊢
 go_enter Tryz.func63,Tryz.ntmps63
 go_wp2_with fail
 obtain⟨w1,hw1⟩:∃ w1,w1=w.alloc (.cells #[.slice (some ⟨b,off,none⟩) n c,.bool cl] 82):=⟨_,rfl⟩;rw[← hw1] at hsb ⊢;clear hw1
 go_loopg [8] (n+1) (fun g vi wr=>∃ k fu:Nat,p+3≤k∧k≤n∧n+1≤g+k∧n+1≤fu+k∧vi = .int .i64 k∧Hid (endB l fu k=R)∧Sb w wr (some ⟨b,off,none⟩) n c cl)
 case atStart=>exact⟨p+3,n+2,by omega,by omega,by omega,by omega,by go_num,HR,uh hsb⟩
 case round =>
  obtain⟨k,fu,hpk,hk,hg,hf,rfl,hik,hs⟩:=hrel;obtain⟨f2,rfl⟩:∃ f2,fu=f2+1:=⟨fu - 1,by omega⟩
  have hik':=Hi (show (if tq l k=true then some k
   else if cAt l k=92∧tq l (k+1)=true then endB l f2 (k+4)
   else if soB (cAt l k)=false then none else endB l f2 (k+1))=R from uh hik)
  clear hik;have d0:=hs.c0;have d1:=hs.c1
  go_wp2_with fail
  refine (uh hT wr hs.bel k (by omega)).mono ?_
  rintro e w2 ⟨rfl,b2⟩;have hs2:=hs.below b2;clear hs d0 d1;have d0:=hs2.c0;have d1:=hs2.c1
  cases ht:tq l k with
  | true =>
   have hRk:=Hi (show R=some k from by rw[← uh hik',if_pos ht])
   have hkn:k+2<n:=by rw[← uh hl];exact zgQ l k ht
   have kc:(k:Int)≤(c:Int):=by omega
   have pc:¬ c=p+3:=by omega
   have HU:=Hi (uh HB0 _ _ _ _ w2 ((zfQ h (p+3) k hpk (by omega)).below hs2.bel) (by omega) (fun x hx=>uh HS x (List.mem_of_mem_drop (List.mem_of_mem_take hx))))
   have HF:=Hi (show blc bS l p=(7,k+3,bS (insZ l (p+3) k)) from by rw[uh HQ,uh hRk];rfl)
   clear hik' ht
   go_wp2_with fail
   refine (uh HU).mono ?_
   rintro e w3 ⟨rfl,b3⟩
   go_wp2_with fail
   go_ret3
   exact⟨by rw[uh HF];rfl,hs2.bel.trans (b3.mono hs2.bel.size)⟩
  | false =>
   rw[ht] at hik'
   go_wp2_with fail
   refine (uh hA w2 hs2.bel k (by omega)).mono ?_
   rintro e w3 ⟨rfl,b3⟩;have hs3:=hs2.below b3;clear hs2 d0 d1 ht;have d0:=hs3.c0;have d1:=hs3.c1;obtain⟨x,hx⟩:∃ x,x=cAt l k:=⟨_,rfl⟩;rw[← hx] at hik' ⊢;have Hx:=Hi hx.symm;clear hx
   by_cases h92:x=92
   ·subst h92
    have HP:=Hi (show ∀ y,tq l (k+1)=y→(if y=true then endB l f2 (k+4) else endB l f2 (k+1))=R from fun y hy=>by
     have e:=uh hik';rw[if_neg (by decide)] at e
     subst hy
     by_cases hy:tq l (k+1)=true
     ·rw[if_pos ⟨rfl,hy⟩] at e
      rw[if_pos hy];exact e
     ·rw[if_neg (fun e=>hy e.2),if_neg (show ¬ soB 92=false by decide)] at e
      rw[if_neg hy]
      exact e)
    have hk1:k<n:=by
     rw[← uh hl];exact zhB l k (by rw[uh Hx];decide)
    have S:=Hi (fun W=>zbj 92 W)
    rw[show soB 92=true from by decide] at S
    clear hik' Hx
    go_wp2_with fail
    rw[show ((k:Int)+1)=((k+1:Nat):Int) by omega]
    refine (uh hT w3 hs3.bel (k+1) (by omega)).mono ?_
    rintro e w4 ⟨rfl,b4⟩;have hs4:=hs3.below b4;clear hs3 d0 d1;have d0:=hs4.c0;have d1:=hs4.c1
    cases ht:tq l (k+1) with
    | true =>
     have hkn:k+1+2<n:=by rw[← uh hl];exact zgQ l (k+1) ht
     have hik3:=Hi (show endB l f2 (k+4)=R from by
      have e:=uh HP _ ht;rw[if_pos rfl] at e
      exact e)
     clear HP ht
     go_wp2_with fail
     go_roundg (gk - 1)
     case rel=>exact⟨k+4,f2,by omega,by omega,by omega,by omega,by go_num,hik3,hs4⟩
     case measure=>omega
    | false =>
     have hik3:=Hi (show endB l f2 (k+1)=R from by
      have e:=uh HP _ ht;rw[if_neg (by decide)] at e
      exact e)
     clear HP ht
     go_wp2_with fail
     refine (uh S _).mono ?_
     rintro e w5 ⟨rfl,rfl⟩
     go_wp2_with fail
     go_roundg (gk - 1)
     case rel=>exact⟨k+1,f2,by omega,by omega,by omega,by omega,by go_num,hik3,hs4⟩
     case measure=>omega
   ·have e92:(x == 92)=false:=by simpa using h92
    have hik2:=Hi (show (if soB x=false then none else endB l f2 (k+1))=R from by
     have e:=uh hik';rw[if_neg (by decide),if_neg (fun e=>h92 e.1)] at e
     exact e)
    clear hik'
    go_wp2_with fail
    refine (zbj x _).mono ?_
    rintro e w5 ⟨rfl,rfl⟩
    cases hsx:soB x with
    | false =>
     have HF:=Hi (show blc bS l p=(1,p,⟨#[]⟩) from by rw[uh HQ,← uh hik2,if_pos hsx];rfl)
     have HB:=Hi (fun W=>zbS p W)
     clear hik2 Hx hsx
     go_wp2_with fail
     refine (uh HB _).mono ?_
     rintro e w6 ⟨rfl,rfl⟩
     go_wp2_with fail
     go_ret3
     exact⟨by rw[uh HF];rfl,hs3.bel⟩
    | true =>
     have hkn:k<n:=by rw[← uh hl];exact zhB l k (by rw[uh Hx,hsx])
     have hik3:=Hi (show endB l f2 (k+1)=R from by rw[← uh hik2,if_neg (by rw[hsx];decide)])
     clear hik2 Hx hsx
     go_wp2_with fail
     go_roundg (gk - 1)
     case rel=>exact⟨k+1,f2,by omega,by omega,by omega,by omega,by go_num,hik3,hs3⟩
     case measure=>omega
end Go.Proofs.YtifbkdicglcogaaGreat.lx
namespace Go.Proofs.YtifbkdicglcogaaGreat.sv
open Go.ChangeShapes Go.WideShapes Go.ChangeAt Go.RowKit
open mem
open ints (Hi uh)
theorem zn1 (M:List (List Int)) (x:List Int):jn (M ++ [x])=if M.length=0 then x else jn M ++ ([10] ++ x):=by
 induction M with
 | nil=>rfl
 | cons a M ih =>
  cases M with
  | nil=>simp[jn]
  | cons b M =>
   rw[if_neg (by simp)] at ih ⊢
   show a ++ 10 :: jn ((b :: M) ++ [x])=(a ++ 10 :: jn (b :: M)) ++ ([10] ++ x)
   rw[ih];simp
theorem ziP (A B:List (List Int)):(jn A).length≤(jn (A ++ B)).length:=by
 induction A with
 | nil=>exact Nat.zero_le _
 | cons a A ih =>
  cases A with
  | nil =>
   cases B with
   | nil=>exact lr _
   | cons b B=>simp[jn]
  | cons a2 A =>
   show (a ++ 10 :: jn (a2 :: A)).length≤(a ++ 10 :: jn ((a2 :: A) ++ B)).length
   simp only[List.length_append,List.length_cons] at ih ⊢;omega
theorem zg7 (L:List (List Int)) (k:Nat):(jn (L.take k)).length≤(jn L).length:=by
 have:=ziP (L.take k) (L.drop k);rw[List.take_append_drop] at this;exact this
set_option maxHeartbeats 4000000 in
set_option maxRecDepth 4000 in
theorem zjR (b off n c:Nat) (L:List (List Int)) (w:World) (h:Lns w b off n c L) (hn:n≤1099511627777) (hm:(jn L).length≤1099511627776) :
  Calls Tryz.prog 101 #[.slice (some ⟨b,off,none⟩) n c] w fun e w'=>∃ v,e = .returned v∧w'.ownsRow w.heap.size 21 1 v (jn L).length ((jn L).map (Value.int .i32))∧Below w.heap.size w w':=by
 obtain⟨i0,hi,hz0,hz1,hz2⟩:=info_parts info32;have HL:=Hi h.len;have hle:=h.le
 go_enter Tryz.func101,Tryz.ntmps101
 go_wp2_with fail
 go_loopw [3,8] (fun v i wr=>∃ k:Nat,k≤n∧i = .int .i64 k∧wr.ownsRow w.heap.size 21 1 v (jn (L.take k)).length ((jn (L.take k)).map (Value.int .i32))∧Below w.heap.size w wr) (fun _ i _=>n - (intOf i).toNat)
 case atStart=>exact⟨0,Nat.zero_le _,rfl,World.ownsRow_nil _ _ _ _,Below.refl _ _⟩
 case round =>
  obtain⟨k,hk,rfl,hown,hb⟩:=hrel
  by_cases hlt:k<n
  ·obtain⟨ai,ci,h1,h2,_⟩:=h.at_ k hlt
   have hcl:=(hb.cell (p:=⟨b,off+k,none⟩) h.lt).trans h1;have hkl:k<L.length:=by rw[uh HL];exact hlt
   have hsn:=Hi (show jn (L.take (k+1))=if k=0 then L.getD k [] else jn (L.take k) ++ ([10] ++ L.getD k []) from by
    rw[zfe L k hkl,zn1,List.length_take,Nat.min_eq_left (Nat.le_of_lt hkl)])
   have hlen:=zg7 L (k+1);have H2:=Hi h2;have i1:(k:Int)<(n:Int):=by omega
   have hbs:=hb.size;obtain⟨x,hx⟩:∃ x,x=L.getD k []:=⟨_,rfl⟩;rw[← hx] at h1 hcl hsn H2;obtain⟨M,hM⟩:∃ M,M=jn (L.take k):=⟨_,rfl⟩;rw[← hM] at hsn hown;have hM0:=Hi (show k=0→M=[] from fun e=>by rw[hM,e];rfl)
   clear hx h1 h2 hM hkl;obtain⟨aB,cB,rfl⟩:=lx.zeC hown
   by_cases h0:k=0
   ·have hsn2:=Hi (show jn (L.take (k+1))=M ++ x from by rw[uh hsn,if_pos h0,uh hM0 h0];rfl)
    rw[uh hsn2,List.length_append] at hlen;clear hsn hM0;subst h0;rw[Nat.add_zero] at hcl
    go_wp2_with (at_builtin;refine lx.zdq _ rfl _ _ 78 rfl w.heap.size 21 i0 .i32 4 Tryz.underlying78 hi hz0 hz1 hz2 _ _ _ rfl hown _ _ _ x rfl ((uh H2).below hb) (by unfold maxLen;omega) (by omega) (by omega) ?_;intro v' wC hown' hbC)
    refine⟨⟨0+1,by omega,by go_num,?_,hb.trans hbC⟩,by simp only[intOf];omega⟩
    rw[uh hsn2,List.length_append,List.map_append];exact hown'
   ·have hsn2:=Hi (show jn (L.take (k+1))=(M ++ [10]) ++ x from by rw[uh hsn,if_neg h0];simp)
    rw[uh hsn2,List.length_append,List.length_append] at hlen;simp only[List.length_cons,List.length_nil] at hlen;have k0:(0:Int)<(k:Int):=by omega
    clear hsn hM0
    go_wp2_with (first
     | (at_builtin;refine lx.zcB _ rfl _ _ 78 rfl w.heap.size 21 i0 .i32 4 Tryz.underlying78 hi hz0 hz1 hz2 _ _ _ rfl hown _ rfl (by unfold maxLen;omega) (by omega) (by omega) ?_;intro v' wC hown' hbC;obtain⟨aC,cC,rfl⟩:=lx.zeC hown';have hbs2:=(hb.trans hbC).size)
     | (at_builtin;refine lx.zdq _ rfl _ _ 78 rfl w.heap.size 21 i0 .i32 4 Tryz.underlying78 hi hz0 hz1 hz2 _ _ _ rfl hown' _ _ _ x rfl ((uh H2).below (hb.trans hbC)) (by unfold maxLen;omega) (by omega) (by omega) ?_;intro v2 wD hown2 hbD))
    refine⟨⟨k+1,by omega,by go_num,?_,(hb.trans hbC).trans hbD⟩,by simp only[intOf];omega⟩
    rw[uh hsn2,List.length_append,List.length_append,List.map_append,List.map_append];exact hown2
  ·obtain rfl:k=n:=by omega
   have e:L.take k=L:=List.take_of_length_le (by rw[uh HL];omega)
   rw[e] at hown;clear e
   go_wp2_with fail
   go_ret
   exact⟨_,rfl,hown,hb⟩
def frm (L:List (List Int)):Nat:=(L.takeWhile blk).length
def cmI (L:List (List Int)):Nat:=(max (lsI (L.drop 1)) 0).toNat
def cutF (f c:Nat) (M:List (List Int)):List (List Int):=if f=0 then cutL c M else M.map (List.drop c)
def dd (L:List (List Int)):List (List Int):=cutF (frm L) (cmI L) (trm L)
theorem zhD (f c:Nat) (M:List (List Int)):(cutF f c M).length=M.length:=by
 unfold cutF
 split
 ·cases M <;> simp[cutL]
 ·simp
theorem zlc (f c:Nat) (M:List (List Int)) (i:Nat) (h:i<M.length):(cutF f c M).getD i []=if f+i=0 then M.getD i [] else (M.getD i []).drop c:=by
 unfold cutF
 by_cases hf:f=0
 ·rw[if_pos hf]
  cases M with
  | nil=>simp at h
  | cons x M =>
   cases i with
   | zero=>simp[cutL,hf]
   | succ i =>
    rw[if_neg (by omega)]
    have h2:i<M.length:=by simpa using h
    simp[cutL,List.getD,h2]
 ·rw[if_neg hf,if_neg (by omega)]
  simp[List.getD,h]
theorem zhP:∀ (L:List (List Int)) (f:Nat),f≤L.length→(∀ j,j<f→blk (L.getD j [])=true)→(f<L.length→blk (L.getD f [])=false)→frm L=f
 | [],f,h,_,_=>by simp at h;subst h;rfl
 | x :: r,0,_,_,h=>by
  have hx:blk x=false:=by simpa using h (by simp)
  unfold frm;rw[List.takeWhile_cons,hx];rfl
 | x :: r,f+1,h,h1,h2=>by
  have hx:blk x=true:=by simpa using h1 0 (by omega)
  have e:frm (x :: r)=frm r+1:=by unfold frm;rw[List.takeWhile_cons,hx];simp
  rw[e,zhP r f (by simp at h;omega) (fun j hj=>by simpa using h1 (j+1) (by omega)) (fun hf=>by simpa using h2 (by simp;omega))]
theorem zkK (L:List (List Int)) (f t:Nat) (hft:f≤t) (ht:t≤L.length) (h1:∀ j,j<f→blk (L.getD j [])=true) (h2:f<t→blk (L.getD f [])=false)
  (h3:∀ j,t≤j→j<L.length→blk (L.getD j [])=true) (h4:f<t→blk (L.getD (t - 1) [])=false):trm L=(L.drop f).take (t - f):=by
 have hA:∀ x ∈ L.take f,blk x=true:=fun x hx=>by
  obtain⟨i,hi,rfl⟩:=List.mem_iff_getElem.1 hx;have hi2:i<f∧i<L.length:=by simp at hi;omega
  have:=h1 i hi2.1
  simpa[List.getD,hi2.2] using this
 have hB:∀ x ∈ L.drop t,blk x=true:=fun x hx=>by
  obtain⟨i,hi,rfl⟩:=List.mem_iff_getElem.1 hx;have hi2:t+i<L.length:=by simp at hi;omega
  have:=h3 (t+i) (by omega) hi2
  simpa[List.getD,hi2] using this
 have e:L=L.take f ++ (L.drop f).take (t - f) ++ L.drop t:=by
  have e1:=List.take_append_drop f L;have e2:=List.take_append_drop (t - f) (L.drop f);rw[List.drop_drop,show f+(t - f)=t by omega] at e2
  rw[List.append_assoc,e2,e1]
 by_cases hlt:f<t
 ·conv=>lhs;rw[e]
  have hfl:f<L.length:=by omega
  have ht1:t - 1<L.length:=by omega
  refine zoN hA hB ⟨L.getD f [],(L.drop (f+1)).take (t - f - 1),?_,h2 hlt⟩ ⟨L.getD (t - 1) [],(L.drop f).take (t - f - 1),?_,h4 hlt⟩
  ·rw[List.drop_eq_getElem_cons hfl]
   conv=>lhs;rw[show t - f=(t - f - 1)+1 by omega,List.take_succ_cons]
   simp[List.getD,hfl]
  ·conv=>lhs;rw[show t - f=(t - f - 1)+1 by omega]
   rw[List.take_add_one]
   congr 1
   rw[List.getElem?_drop,show f+(t - f - 1)=t - 1 by omega]
   simp[List.getD,ht1]
 ·have hE:t=f:=by omega
  subst hE
  have hall:∀ x ∈ L,blk x=true:=fun x hx=>by
   rw[← List.take_append_drop t L] at hx
   rcases List.mem_append.1 hx with h5 | h5
   ·exact hA x h5
   ·exact hB x h5
  unfold trm;rw[zb6 hall];simp
theorem zpf (L:List (List Int)):((cmI L:Nat):Int)=max (lsI (L.drop 1)) 0:=by
 unfold cmI;omega
theorem zpS:∀ (L:List (List Int)) (m N:Nat),lst L=some m→(∀ i,(L.getD i []).length≤N)→m≤N
 | [],m,N,h,_=>by cases h
 | x :: L,m,N,h,hN=>by
  have h1:=(zlK h).1;obtain⟨y,hy,_,e⟩:=h1;obtain⟨i,hi,rfl⟩:=List.mem_iff_getElem.1 hy;have:=hN i;have e2:(x :: L).getD i []=(x :: L)[i]:=by rw[List.getD,List.getElem?_eq_getElem hi];rfl
  rw[e2] at this;have:=zjJ ((x :: L)[i]);omega
theorem zpg (L:List (List Int)) (N:Nat) (h:∀ i,(L.getD i []).length≤N):cmI L≤N:=by
 unfold cmI lsI
 cases e:lst (L.drop 1) with
 | none=>simp only;omega
 | some m =>
  have:=zpS (L.drop 1) m N e (fun i=>by have:=h (i+1);simpa[List.getD] using this)
  simp only;omega
theorem Lns.tail {w:World} {b n c:Nat} {L:List (List Int)} (h:Lns w b 0 n c L):Lns w b 1 (n - 1) (c - 1) (L.drop 1):=by
 refine⟨by rw[List.length_drop,h.len],by have:=h.le;omega,h.lt,fun i hi=>?_⟩
 obtain⟨ai,ci,h1,h2,h3⟩:=h.at_ (1+i) (by omega)
 have e:(L.drop 1).getD i []=L.getD (1+i) []:=by simp[List.getD,Nat.add_comm]
 rw[e];exact⟨ai,ci,by simpa using h1,h2,h3⟩
theorem Lns.nil0 {w:World} {b off:Nat} (h:b<w.heap.size):Lns w b off 0 0 []:=⟨rfl,lr _,h,fun i hi=>by omega⟩
set_option maxHeartbeats 1000000 in
theorem zjp (b n c:Nat) (L:List (List Int)) (w:World) (h:Lns w b 0 n c L) (h0:0<n) (hn:n≤9223372036854775806) (hm:∀ i,(L.getD i []).length≤1099511627776) :
  Calls Tryz.prog 127 #[.slice (some ⟨b,0,none⟩) n c] w fun e w'=>e = .returned (.int .i64 (cmI L:Nat))∧Below w.heap.size w w':=by
 have hle:=h.le;have hm1:∀ i,((L.drop 1).getD i []).length≤1099511627776:=fun i=>by have:=hm (i+1);simpa[List.getD] using this
 rw[zpf]
 by_cases hc:c=1
 ·subst hc
  have hn1:n=1:=by omega
  subst hn1;have hd:L.drop 1=[]:=List.drop_eq_nil_of_le (by rw[h.len];omega)
  have I:=Hi (zh0 b 0 0 0 (L.drop 1) w (by rw[hd];exact Lns.nil0 h.lt) (by omega) hm1)
  clear hm1 hm hd
  generalize max (lsI (L.drop 1)) 0=M at *
  go_enter Tryz.func127,Tryz.ntmps127
  go_wp2_with fail
  refine (uh I).mono ?_
  rintro e w1 ⟨rfl,hb⟩;clear I
  go_wp2
  go_ret
  exact⟨rfl,hb⟩
 ·have I:=Hi (zh0 b 1 (n - 1) (c - 1) (L.drop 1) w h.tail (by omega) hm1)
  have c1:¬ c=1:=hc;have n1:¬ ((n:Int)=0):=by omega
  have i1:(1:Int)≤(n:Int):=by omega
  have i2:(n:Int)≤(c:Int):=by omega
  clear hm1 hm
  generalize max (lsI (L.drop 1)) 0=M at *
  go_enter Tryz.func127,Tryz.ntmps127
  go_wp2_with fail
  refine (uh I).mono ?_
  rintro e w1 ⟨rfl,hb⟩;clear I
  go_wp2
  go_ret
  exact⟨rfl,hb⟩
theorem zdh (a:Option Addr) (n c:Nat) (l:List Int) (w:World) (h:Row .i32 w a n c l) (hn:4 * n≤281474976710656) :
  Calls Tryz.prog 128 #[.slice a n c] w fun e w'=>e = .returned (.slice (some ⟨w.heap.size,0,none⟩) n n) ∧
   w'.ownsRow w.heap.size 21 1 (.slice (some ⟨w.heap.size,0,none⟩) n n) n (l.map (Value.int .i32))∧Below w.heap.size w w':=by
 obtain⟨i0,hi,hz0,hz1,hz2⟩:=info_parts info32;have hl:(l.map (Value.int .i32)).length=n:=by simp[h.len]
 go_enter Tryz.func128,Tryz.ntmps128
 go_wp2_with (first
  | (refine wpList_make_full _ rfl _ _ 78 rfl w.heap.size 21 i0 (.int .i32 0) 1 Tryz.underlying78 hi hz0 hz1 .i64 .i64 _ _ n rfl rfl rfl rfl (by rw[hz2];omega) (by unfold maxLen;omega) (lr _) ?_;intro w1 hown hgrow;have hg1:=belowNone hgrow;have hr1:=h.below hg1;obtain⟨cur,hcur,hcs⟩:=zcx hown)
  | (refine wpList_copy_splice rfl (.tmp 7) (.tmp 8) 78 78 rfl 21 Tryz.underlying78 size32 _ _ n n n c rfl rfl w.heap.size 0 cur.toList 21 hcur (l.map (Value.int .i32)) (by rw[hl];exact (Nat.min_self n).symm) (fun hp=>⟨rfl,zij hr1 (by rw[hl] at hp;exact hp)⟩) (by rw[hl];simp;omega) (ints_oneCell _ _) w.heap.size w hg1 (lr _) ?_;intro w2 hrow2 hb2))
 go_ret
 refine⟨rfl,?_,hb2⟩
 have:=hrow2.out;rw[zdC _ _ (by rw[hl];simpa using hcs)] at this
 exact⟨by simp[h.len],.inr ⟨w.heap.size,n,_,rfl,lr _,this,lr _,by unfold maxLen;omega,by simp[h.len],by rw[Nat.mul_one];exact List.take_of_length_le (by simp[h.len])⟩⟩
end Go.Proofs.YtifbkdicglcogaaGreat.sv
