import Derived.Test.YtepmbmbnlmbhhaaGreatPla4
import Derived.OrdersHeld
import Derived.Deep.MidRow
import Derived.Laws.Rows
import Derived.Laws.ResultCell
set_option linter.unusedVariables false
set_option linter.unusedSimpArgs false
set_option maxHeartbeats 16000000
set_option maxRecDepth 8000
open Go.Proofs.Tryz
namespace Go.Proofs.YtepmbmbnlmbhhaaGreat
open Go.ChangeShapes Go.WideShapes Go.ChangeAt Go.RowKit
namespace lx
open ints (Hi uh hexV)
open mem
def endQ(l:List Int):Nat→Nat→Option Nat
 | 0,_=>none
 | k+1,i=>if cAt l i=34 then some i
  else if cAt l i=92 then (if cAt l (i+1)=10∨cAt l (i+1)=13∨soB (cAt l (i+1))=false then none else endQ l k (i+2))
  else if cAt l i=10∨cAt l i=13∨soB (cAt l i)=false then none else endQ l k (i+1)
def insZ(l:List Int)(p i:Nat):List Int:=(l.drop p).take (i-p)
def qtdR(l:List Int)(p:Nat)(R:Option Nat):Int × Nat × ByteArray:=
 match R with
 | none=>(1,p,⟨#[]⟩)
 | some i=>match quo (insZ l (p+1) i) with
  | none=>(1,p,⟨#[]⟩)
  | some r=>(6,i+1,encS r)
def qtd(l:List Int)(p:Nat):Int × Nat × ByteArray:=qtdR l p (endQ l (l.length+2) (p+1))
theorem zfz(l:List Int)(i:Nat)(h:soB (cAt l i)=true):i<l.length:=by
 by_cases hi:i<l.length
 ·exact hi
 ·unfold cAt at h
  rw[if_neg hi] at h;exact absurd h (by decide)
theorem zeo(l:List Int)(i:Nat)(h:cAt l i=34):i<l.length:=by
 by_cases hi:i<l.length
 ·exact hi
 ·unfold cAt at h
  rw[if_neg hi] at h;omega
theorem zb3{k:IntKind}{w:World}{b off n c:Nat}{l:List Int}(h:Row k w (some ⟨b,off,none⟩) n c l)(p i:Nat)(hp:p≤i)(hi:i≤n):Row k w (some ⟨b,off+p,none⟩) (i-p) (c-p) (insZ l p i):=by
 have hl:=h.len;have hle:=h.le;refine⟨by unfold insZ;rw[List.length_take,List.length_drop,hl];omega,by omega,(fun e=>by cases e),?_⟩
 rcases h.at_ with h0 | ⟨b',off',he,hb,hc⟩
 ·exact .inl (by omega)
 ·simp only[Option.some.injEq,Addr.mk.injEq] at he
  obtain⟨rfl,rfl,_⟩:=he;refine .inr ⟨b,off+p,rfl,hb,fun j hj=>?_⟩
  have:=hc (p+j) (by omega)
  rw[show off+p+j=off+(p+j) from by omega,this]
  unfold insZ;simp[List.getD,hj]
def eqB(l:List Int):Bool:=decide (cAt l 0=92∧cAt l 1=34∧cAt l 2=34∧cAt l 3=34)
def tqc(j:Nat):Int:=if j=0 then 92 else 34
theorem znr(p:Nat)(h:p<4):Utf8.decode ⟨#[92,34,34,34]⟩ p=((tqc p).toNat,1):=by
 have e:∀ j:Fin 4,Utf8.decode ⟨#[92,34,34,34]⟩ j.val=((tqc j.val).toNat,1):=by decide +kernel
 exact e ⟨p,h⟩
theorem ze4(l:List Int):eqB l=true ↔ ∀ j,j<4→cAt l j=tqc j:=by
 unfold eqB;rw[decide_eq_true_iff]
 constructor
 ·rintro ⟨e0,e1,e2,e3⟩ j hj
  have:j=0∨j=1∨j=2∨j=3:=by omega
  rcases this with rfl | rfl | rfl | rfl
  ·exact e0
  ·exact e1
  ·exact e2
  ·exact e3
 ·intro h
  exact⟨h 0 (by omega),h 1 (by omega),h 2 (by omega),h 3 (by omega)⟩
set_option maxRecDepth 100000 in
theorem zkX(a:Option Addr)(n c:Nat)(l:List Int)(w:World)(h:Row .i32 w a n c l)(hn:n≤1099511627776) :
  Calls prog 172 #[.slice a n c] w fun e w'=>e = .returned (.bool (eqB l))∧Below w.heap.size w w':=by
 have hl:=Hi h.len;have hle:=h.le;obtain⟨R,hR⟩:∃ R,R=eqB l:=⟨_,rfl⟩;rw[←hR];have HR:=Hi (show R=true ↔ ∀ j,j<4→cAt l j=tqc j from by rw[hR];exact ze4 l)
 clear hR;have hsz:(⟨#[92,34,34,34]⟩:ByteArray).size=4:=rfl;have hde:=znr;obtain⟨s,hS⟩:∃ s,s=(⟨#[92,34,34,34]⟩:ByteArray):=⟨_,rfl⟩
 go_enter func172,ntmps172
 rw[←hS] at hsz hde ⊢;have HD:=Hi hde;clear hS hde
 go_wp2_with fail
 have HRW:=Hi (fun pos=>h.below ((Below.refl w.heap.size w).alloc (lr _) _:Below w.heap.size w (w.iter s pos)))
 go_loopw [3] (fun _ wr=>∃ pos:Nat,wr=w.iter s pos∧pos≤4∧pos≤n∧Hid (∀ j,j<pos→cAt l j=tqc j)) (fun _ wr=>4-wr.iterPos w.heap.size)
 case atStart=>exact⟨0,rfl,by omega,by omega,Hi (fun j hj=>by omega)⟩
 case round =>
  obtain⟨pos,rfl,hpl,hpn,hq⟩:=hrel
  by_cases hp:pos<4
  ·have hdec:=uh HD pos hp
   have hnx:∀ ty,(Instr.next (.pointer (some ⟨w.heap.size,0,none⟩)) true ty).run prog (w.iter s pos) = .ok (.tuple #[.bool true,.int .i64 pos,.int .i32 (tqc pos)]) (w.iter s (pos+1)):=fun ty=>by
    have:=run_next_any (P:=prog) w s pos ty (by omega)
    rw[hdec] at this;rw[show ((tqc pos).toNat:Int)=tqc pos from by unfold tqc;split <;> rfl] at this
    exact this
   clear hdec
   by_cases hpe:pos=n
   ·have hf:=Hi (show R=false from by
     cases hR:R with
     | false=>rfl
     | true =>
      have e:=(uh HR).1 hR pos hp;unfold cAt at e;rw[if_neg (by rw[uh hl];omega)] at e
      unfold tqc at e
      split at e <;> omega)
    subst hpe;clear HR hq
    go_wp2_with fail
    go_ret
    exact⟨by rw[uh hf];rfl,(Below.refl _ _).alloc (lr _) _⟩
   ·have pe:((pos:Int)==(n:Int))=false:=by simp;omega
    have pn:¬(pos:Int)=(n:Int):=by omega
    have pl:(pos:Int)<(n:Int):=by omega
    rcases (uh HRW (pos+1)).at_ with h0 | ⟨b,off,rfl,hb,hc⟩
    ·omega
    have c0:=hc pos (by omega)
    obtain⟨x,hx⟩:∃ x,x=l.getD pos 0:=⟨_,rfl⟩;have Hx:=Hi (show cAt l pos=x from by unfold cAt;rw[if_pos (by rw[uh hl];omega),hx])
    rw[←hx] at c0;have c1:(w.iter s (pos+1)).cell? ⟨b,off+pos,none⟩=some (.int .i32 x):=c0;clear c0 hb;obtain⟨y,hy⟩:∃ y,y=tqc pos:=⟨_,rfl⟩;rw[←hy] at hnx;have Hy:=Hi hy;clear hx hc hpe hy
    by_cases hxy:x=y
    ·have hq2:=Hi (show ∀ j,j<pos+1→cAt l j=tqc j from fun j hj=>by
      by_cases e:j<pos
      ·exact uh hq j e
      ·obtain rfl:j=pos:=by omega
       rw[uh Hx,hxy,uh Hy])
     subst hxy;clear HR hq Hx Hy
     go_wp2_with fail
     refine⟨⟨pos+1,rfl,by omega,by omega,hq2⟩,?_⟩
     simp;omega
    ·have e1:(x != y)=true:=by simpa using hxy
     have hf:=Hi (show R=false from by
      cases hR:R with
      | false=>rfl
      | true =>
       have e:=(uh HR).1 hR pos hp;rw[uh Hx,←uh Hy] at e
       exact absurd e hxy)
     clear HR hq Hx Hy
     go_wp2_with fail
     go_ret
     exact⟨by rw[uh hf];rfl,(Below.refl _ _).alloc (lr _) _⟩
  ·have hnx:∀ ty,(Instr.next (.pointer (some ⟨w.heap.size,0,none⟩)) true ty).run prog (w.iter s pos) = .ok (.tuple #[.bool false]) (w.iter s pos):=fun ty=>run_next_end (P:=prog) w s pos ty (by omega)
   have hf:=Hi (show R=true from (uh HR).2 (fun j hj=>uh hq j (by omega)))
   clear HR hq
   go_wp2_with fail
   go_ret
   exact⟨by rw[uh hf];rfl,(Below.refl _ _).alloc (lr _) _⟩
def blkF:Nat→List Int→Nat→Bool→Option (List Int × Bool)
 | 0,l,q,o=>if l.length=0 then some ([],!o) else none
 | k+1,l,q,o =>
  if l.length=0 then some ([],!o)
  else if eqB l=true then (blkF k (l.drop 4) 0 false).map (fun r=>(34::34::34::r.1,r.2))
  else if cAt l 0=34 then (if q=2∨soB 34=false then none else (blkF k (l.drop 1) (q+1) true).map (fun r=>(34::r.1,r.2)))
  else if soB (cAt l 0)=false then none
  else (blkF k (l.drop 1) 0 (decide (cAt l 0=92))).map (fun r=>(cAt l 0::r.1,r.2))
def blk(l:List Int):Option (List Int × Bool):=blkF l.length l 0 false
theorem zfw(k:Nat)(l:List Int)(q:Nat)(o:Bool)(h:l.length=0):blkF k l q o=some ([],!o):=by
 cases k with
 | zero=>unfold blkF;rw[if_pos h]
 | succ k=>unfold blkF;rw[if_pos h]
theorem ze5(l:List Int)(h:eqB l=true):4≤l.length:=by
 have e:=(ze4 l).1 h 3 (by omega)
 by_cases h4:3<l.length
 ·omega
 ·unfold cAt at e
  rw[if_neg h4] at e;exact absurd e (by decide)
theorem zkV(l:List Int)(h:eqB l=true):insZ l 1 4=[34,34,34]:=by
 have h4:=ze5 l h;have e:=(ze4 l).1 h;have e1:=e 1 (by omega)
 have e2:=e 2 (by omega)
 have e3:=e 3 (by omega)
 match l,h4,e1,e2,e3 with
 | a::b::c::d::r,_,e1,e2,e3 =>
  have e1:b=34:=by simpa[cAt,tqc] using e1
  have e2:c=34:=by simpa[cAt,tqc] using e2
  have e3:d=34:=by simpa[cAt,tqc] using e3
  subst e1 e2 e3;rfl
theorem zaG{P:Program}(w:World){ops:Array Oper}{rest:List Oper}{o:Oper}{a:Act}{Q:Exit→Act→World→Prop}(hgd:o.guard=none)(s x:Operand)(t:TypeId)
  (ho:o.op = .call { callee:=.builtin .append,args:=#[s,x],argTypes:=#[t,t] })
  (base:Nat) (e:TypeId) (i:TypeInfo) (k:IntKind) (bytes:Nat) (ht:P.underlying t=some (.slice e)) (hi:P.info? e=some i) (hz:i.zero=some (.int k 0))
  (hsize:i.size=1) (hby:i.bytes=bytes)
  (v:Value) (n:Nat) (xs:List Value) (hs:a.eval s=v) (hown:w.ownsRow base e 1 v n xs)
  (ad:Option Addr) (m c:Nat) (zs:List Int) (hx:a.eval x = .slice ad m c) (hrow:Row k w ad m c zs)
  (h63:n+m≤maxLen) (hbytes:(n+m) * bytes≤140737488355328) (hbase:base≤w.heap.size)
  (h:∀ v' w',w'.ownsRow base e 1 v' (n+m) (xs++zs.map (Value.int k))→Below base w w'→wpList P ops Q rest (a.put o.dst v') w') :
  wpList P ops Q (o::rest) a w:=by
 cases ad with
 | none =>
  have hc:=hrow.nil rfl;have hm:m=0:=by have:=hrow.le;omega
  subst hc hm;have hz0:zs=[]:=List.eq_nil_of_length_eq_zero hrow.len;subst hz0;exact wpList_append_own_none hgd s x t ho base e i 1 ht hi v n xs hs hown hx (h v w (by simpa using hown) (Below.refl _ _))
 | some ad =>
  refine wpList_append_own w hgd s x t ho base e i (.int k 0) 1 bytes ht hi hz hsize hby rfl (by decide) v n xs hs hown ad m c (zs.map (Value.int k)) hx (by simp[hrow.len]) (hrow.cells ad rfl) (ints_oneCell _ _) h63 hbytes hbase ?_
  intro v' w' ho' hg _;exact h v' w' ho' ((Below.refl _ _).grown hg hbase (fun q hq=>(hown.lt q hq).1))
def BlkPost(w:World)(l:List Int)(e:Ending)(w':World):Prop:=
 match blk l with
 | none=>e = .returned (.tuple #[.slice none 0 0,.bool false])
 | some r=>∃ v,e = .returned (.tuple #[v,.bool r.2])∧w'.ownsRow w.heap.size 21 1 v r.1.length (r.1.map (Value.int .i32))
theorem ziL{l:List Int}(h:0<l.length):cAt l 0=l.getD 0 0:=by unfold cAt;rw[if_pos h]
theorem zdL(a:Option Addr)(n c:Nat)(l:List Int)(w:World)(h:Row .i32 w a n c l)(hn:n≤1099511627776) :
  Calls prog 158 #[.slice a n c] w fun e w'=>BlkPost w l e w'∧Below w.heap.size w w':=by
 obtain⟨i0,hi,hz0,hz1,hz2⟩:=info_parts info32;have HL:=Hi h.len
 go_enter func158,ntmps158
 go_wp2_with fail
 go_loopw [0,4,5,6] (fun v ch qv ov wr=>∃ a' n' c' l' d fu q o,v = .slice a' n' c'∧Row .i32 w a' n' c' l'∧n'≤fu∧d.length+n'≤n∧q≤2∧qv = .int .i64 (q:Nat)∧ov = .bool o∧Hid (blk l=(blkF fu l' q o).map (fun r=>(d++r.1,r.2)))∧wr.ownsRow w.heap.size 21 1 ch d.length (d.map (Value.int .i32))∧Below w.heap.size w wr) (fun v _ _ _ _=>slN v)
 case atStart =>
  refine⟨a,n,c,l,[],n,0,false,rfl,h,lr _,by simp,by omega,rfl,rfl,Hi ?_,World.ownsRow_nil _ _ _ _,Below.refl _ _⟩
  unfold blk;rw[uh HL];simp
 case round =>
  obtain⟨a1,n1,c1,l1,d,fu,q,o,rfl,hR,hfu,hdn,hq2,rfl,rfl,HQ,hown,hbel⟩:=hrel
  by_cases h0:0<n1
  ·have i0':(0:Int)<(n1:Int):=by omega
   have hl1:=hR.len;have hle1:=hR.le
   obtain⟨b,off,rfl⟩:∃ b off,a1=some ⟨b,off,none⟩:=by
    rcases hR.at_ with h1 | ⟨b,off,e,_⟩
    ·omega
    ·exact⟨b,off,e⟩
   obtain⟨f2,rfl⟩:∃ f2,fu=f2+1:=⟨fu-1,by omega⟩
   have HE:=Hi (zkX _ n1 c1 l1 _ (hR.below hbel) (by omega))
   have HQ2:=Hi (show blk l=(if eqB l1=true then (blkF f2 (l1.drop 4) 0 false).map (fun r=>(34::34::34::r.1,r.2))
     else if cAt l1 0=34 then (if q=2∨soB 34=false then none else (blkF f2 (l1.drop 1) (q+1) true).map (fun r=>(34::r.1,r.2)))
     else if soB (cAt l1 0)=false then none
     else (blkF f2 (l1.drop 1) 0 (decide (cAt l1 0=92))).map (fun r=>(cAt l1 0::r.1,r.2))).map (fun r=>(d++r.1,r.2)) from by
    rw[uh HQ]
    conv=>lhs;unfold blkF
    rw[if_neg (by omega)])
   have HRD:=Hi (fun (j:Nat) (hj:j≤n1)=>zcX hR j hj)
   have HRZ:=Hi (fun (j:Nat) (hj:j=n1)=>zf7 hR j hj)
   have HLL:=Hi hl1;clear hl1 HQ;obtain⟨aB,cB,rfl⟩:=zaz hown
   cases hE:eqB l1 with
   | true =>
    have h4:4≤n1:=by rw[←uh HLL];exact ze5 l1 hE
    have HM:=Hi (zb3 hR 1 4 (by omega) h4)
    rw[zkV l1 hE] at HM
    have HQ3:=Hi (show blk l=(blkF f2 (l1.drop 4) 0 false).map (fun r=>((d++[34,34,34])++r.1,r.2)) from by
     rw[uh HQ2,if_pos hE,Option.map_map]
     congr 1
     funext r
     simp)
    rw[hE] at HE;clear HQ2 hE;have k4:(4:Int)≤(n1:Int):=by omega
    have k4c:(4:Int)≤(c1:Int):=by omega
    have pc:¬c1=1:=by omega
    go_wp2_with fail
    refine (uh HE).mono ?_
    rintro e w1 ⟨rfl,hb1⟩;have hown1:=zah hown hb1;have hbs:=hbel.size;have hb1s:=hb1.size
    go_wp2_with (at_builtin;refine zaG _ rfl _ _ 109 rfl w.heap.size 21 i0 .i32 4 underlying109 hi hz0 hz1 hz2 _ _ _ rfl hown1 _ _ _ [34,34,34] rfl (((uh HM).below hbel).below hb1) (by unfold maxLen;omega) (by omega) (by omega) ?_;intro v' wC hown' hbC)
    refine⟨⟨_,_,_,l1.drop 4,d++[34,34,34],f2,0,false,rfl,?_,by omega,by rw[List.length_append];simp only[List.length_cons,List.length_nil];omega,by omega,by go_num,rfl,HQ3,?_,?_⟩,?_⟩
    ·by_cases hc1:c1=4
     ·rw[if_pos hc1]
      have hr:=uh HRZ 4 (by omega)
      rw[show c1-4=0 by omega]
      exact hr
     ·rw[if_neg hc1]
      exact uh HRD 4 (by omega)
    ·rw[List.length_append,List.map_append]
     exact hown'
    ·exact (hbel.trans (hb1.mono hbs)).trans hbC
    ·show n1-4<n1
     omega
   | false =>
    have k1:(1:Int)≤(n1:Int):=by omega
    have k1c:(1:Int)≤(c1:Int):=by omega
    rw[hE] at HE;have hx0:cAt l1 0=l1.getD 0 0:=ziL (by rw[uh HLL];exact h0)
    obtain⟨x,hx⟩:∃ x,x=cAt l1 0:=⟨_,rfl⟩
    have HQ5:=Hi (show blk l=(if x=34 then (if q=2∨soB 34=false then none else (blkF f2 (l1.drop 1) (q+1) true).map (fun r=>(34::r.1,r.2)))
     else if soB x=false then none
     else (blkF f2 (l1.drop 1) 0 (decide (x=92))).map (fun r=>(x::r.1,r.2))).map (fun r=>(d++r.1,r.2)) from by
      rw[uh HQ2,if_neg (by rw[hE];decide),hx])
    have HC:=Hi (show ∀ W,Below w.heap.size w W→W.cell? ⟨b,off,none⟩=some (.int .i32 x) from fun W hW=>by
     rcases (hR.below hW).at_ with h1 | ⟨b',off',e,_,hc⟩
     ·omega
     ·simp only[Option.some.injEq,Addr.mk.injEq] at e
      obtain⟨rfl,rfl,_⟩:=e;have:=hc 0 h0;rw[hx,hx0]
      exact this)
    clear HQ2 hE hx hx0
    by_cases h34:x=34
    ·subst h34
     have S:=Hi (fun W=>za0 34 W)
     rw[show soB 34=true from by decide] at S
     by_cases hq3:q=2
     ·have hf:=Hi (show blk l=none from by rw[uh HQ5,if_pos rfl,if_pos (.inl hq3)];rfl)
      subst hq3;clear HQ5
      go_wp2_with fail
      refine (uh HE).mono ?_
      rintro e w1 ⟨rfl,hb1⟩;have hcl:=uh HC w1 (hbel.trans (hb1.mono hbel.size))
      go_wp2_with fail
      go_ret2
      exact⟨by unfold BlkPost;rw[uh hf];rfl,hbel.trans (hb1.mono hbel.size)⟩
     ·have HQ3:=Hi (show blk l=(blkF f2 (l1.drop 1) (q+1) true).map (fun r=>((d++[34])++r.1,r.2)) from by
       rw[uh HQ5,if_pos rfl,if_neg (fun e=>by rcases e with e | e;exact hq3 e;exact absurd e (by decide)),Option.map_map]
       congr 1
       funext r
       simp)
      have q3:(((q:Int)+1)==3)=false:=by simp;omega
      have q3':¬((q:Int)+1)=3:=by omega
      clear HQ5
      go_wp2_with fail
      refine (uh HE).mono ?_
      rintro e w1 ⟨rfl,hb1⟩;have hcl:=uh HC w1 (hbel.trans (hb1.mono hbel.size));have hown1:=zah hown hb1;have hbs:=hbel.size;have hb1s:=hb1.size
      go_wp2_with fail
      refine (uh S _).mono ?_
      rintro e w2 ⟨rfl,rfl⟩
      go_wp2_with (at_builtin;refine zau _ rfl _ _ 109 rfl w.heap.size 21 i0 .i32 4 underlying109 hi hz0 hz1 hz2 _ _ _ rfl hown1 _ rfl (by unfold maxLen;omega) (by omega) (by omega) ?_;intro v' wC hown' hbC)
      refine⟨⟨_,_,_,l1.drop 1,d++[34],f2,q+1,true,rfl,?_,by omega,by rw[List.length_append];simp only[List.length_cons,List.length_nil];omega,by omega,by go_num,rfl,HQ3,?_,?_⟩,?_⟩
      ·by_cases hc1:c1=1
       ·rw[if_pos hc1]
        have hr:=uh HRZ 1 (by omega)
        rw[show c1-1=0 by omega]
        exact hr
       ·rw[if_neg hc1]
        exact uh HRD 1 (by omega)
      ·rw[List.length_append,List.map_append]
       exact hown'
      ·exact (hbel.trans (hb1.mono hbs)).trans hbC
      ·show n1-1<n1
       omega
    ·have e34:(x==34)=false:=by simp;exact h34
     have S:=Hi (fun W=>za0 x W)
     cases hsx:soB x with
     | false =>
      have hf:=Hi (show blk l=none from by rw[uh HQ5,if_neg h34,if_pos hsx];rfl)
      rw[hsx] at S;clear HQ5 hsx
      go_wp2_with fail
      refine (uh HE).mono ?_
      rintro e w1 ⟨rfl,hb1⟩;have hcl:=uh HC w1 (hbel.trans (hb1.mono hbel.size))
      go_wp2_with fail
      refine (uh S _).mono ?_
      rintro e w2 ⟨rfl,rfl⟩
      go_wp2_with fail
      go_ret2
      exact⟨by unfold BlkPost;rw[uh hf];rfl,hbel.trans (hb1.mono hbel.size)⟩
     | true =>
      have HQ3:=Hi (show blk l=(blkF f2 (l1.drop 1) 0 (decide (x=92))).map (fun r=>((d++[x])++r.1,r.2)) from by
       rw[uh HQ5,if_neg h34,if_neg (by rw[hsx];decide),Option.map_map]
       congr 1
       funext r
       simp)
      rw[hsx] at S;clear HQ5 hsx
      go_wp2_with fail
      refine (uh HE).mono ?_
      rintro e w1 ⟨rfl,hb1⟩;have hcl:=uh HC w1 (hbel.trans (hb1.mono hbel.size));have hown1:=zah hown hb1;have hbs:=hbel.size;have hb1s:=hb1.size
      go_wp2_with fail
      refine (uh S _).mono ?_
      rintro e w2 ⟨rfl,rfl⟩
      go_wp2_with (at_builtin;refine zau _ rfl _ _ 109 rfl w.heap.size 21 i0 .i32 4 underlying109 hi hz0 hz1 hz2 _ _ _ rfl hown1 _ rfl (by unfold maxLen;omega) (by omega) (by omega) ?_;intro v' wC hown' hbC)
      refine⟨⟨_,_,_,l1.drop 1,d++[x],f2,0,decide (x=92),rfl,?_,by omega,by rw[List.length_append];simp only[List.length_cons,List.length_nil];omega,by omega,by go_num,rfl,HQ3,?_,?_⟩,?_⟩
      ·by_cases hc1:c1=1
       ·rw[if_pos hc1]
        have hr:=uh HRZ 1 (by omega)
        rw[show c1-1=0 by omega]
        exact hr
       ·rw[if_neg hc1]
        exact uh HRD 1 (by omega)
      ·rw[List.length_append,List.map_append]
       exact hown'
      ·exact (hbel.trans (hb1.mono hbs)).trans hbC
      ·show n1-1<n1
       omega
  ·have hz:n1=0:=by omega
   subst hz;have hq:=Hi (show blk l=some (d,!o) from by rw[uh HQ,zfw fu l1 q o hR.len];simp)
   obtain⟨aB,cB,rfl⟩:=zaz hown;clear HQ
   go_wp2_with fail
   go_ret2
   exact⟨by unfold BlkPost;rw[uh hq];exact⟨_,rfl,hown⟩,hbel⟩
open ints (Hi uh)
open mem (Row)
theorem znM(a:Option Addr)(n c:Nat)(l:List Int)(i:Nat)(w:World)(h:Row .i32 w a n c l)(hn:n≤1099511627776)(hi:i≤n)(hp:Plain l) :
  Calls prog 97 #[src a n c true,.int .i64 (i:Int)] w fun e w'=>e = .returned (.tuple #[.int .i64 (rd l true i).1,.int .i64 ((rd l true i).2:Nat),.string ⟨#[]⟩])∧Below w.heap.size w w':=by
 have hl:=Hi h.len;have hsb:=Hi (Sb.new w a n c true)
 have hN:=Hi (show rd l true i=(if i=l.length∧true=true then (0,i)
  else if cAt l i=46 then (if cAt l (i+1)=46∧cAt l (i+2)=46 then (2,i+3) else (1,i))
  else if puB (cAt l i) then (2,i+1)
  else if nsB (cAt l i) then (3,nam l (i+1))
  else if cAt l i=45∨mem.digB (cAt l i) then num l i
  else (1,i)) from rfl)
 obtain⟨N,hNe⟩:∃ N,N=rd l true i:=⟨_,rfl⟩;rw[←hNe] at hN ⊢;clear hNe;have hA:=Hi (fun W (hb:Below w.heap.size w W) (k:Nat)=>zcn a n c true l k W (h.below hb) (by omega))
 have hpl:i<n→0≤cAt l i∧cAt l i≤127∧cAt l i≠34:=fun h'=>hp.at_ (by rw[h.len];exact h')
 have htq:=Hi (fun W (hb:Below w.heap.size w W) (h34:cAt l i≠34)=>znP a n c true l i W (h.below hb) hn hi h34)
 obtain⟨x,hx⟩:∃ x,x=cAt l i:=⟨_,rfl⟩;have hX:=Hi hx;rw[←hx] at hpl hN htq;clear hx;unfold src
 go_enter func97,ntmps97
 go_wp2_with fail
 obtain⟨w1,hw1⟩:∃ w1,w1=w.alloc (.cells #[.slice a n c,.bool true] 113):=⟨_,rfl⟩;rw[←hw1] at hsb ⊢;clear hw1;refine ((uh hA) w1 (uh hsb).bel i).mono ?_
 rintro e w2 ⟨rfl,b2⟩;have hs2:=(uh hsb).below b2;rw[←uh hX];have d0:=hs2.c0;have d1:=hs2.c1
 by_cases hin:i=n
 ·have hN2:=Hi (show N=(0,i) from by rw[uh hN,if_pos ⟨by rw[uh hl];exact hin,by first | rfl | trivial⟩])
  subst hin
  go_wp2_with fail
  go_ret3
  exact⟨by rw[uh hN2];rfl,hs2.bel⟩
 ·have hlt:i<n:=by omega
  obtain⟨x0,x1,x34⟩:=hpl hlt;have ene:((i:Int)==(n:Int))=false:=by simp;omega
  have hN1:=Hi (show N=(if x=46 then (if cAt l (i+1)=46∧cAt l (i+2)=46 then (2,i+3) else (1,i))
   else if puB x then (2,i+1)
   else if nsB x then (3,nam l (i+1))
   else if x=45∨mem.digB x then num l i
   else (1,i)) from by rw[uh hN,if_neg (fun e=>hin (by rw[e.1,uh hl]))])
  have hnm:=Hi (fun W (hb:Below w.heap.size w W)=>zkq a n c true l (i+1) W (h.below hb) hn (by omega))
  have hnu:=Hi (fun W (hb:Below w.heap.size w W)=>zkw a n c true l i W (h.below hb) hn hi)
  clear hN hpl hin
  by_cases h46:x=46
  ·subst h46
   have hN2:=Hi (show N=(if cAt l (i+1)=46∧cAt l (i+2)=46 then (2,i+3) else (1,i)) from uh hN1)
   clear hN1
   go_wp2_with fail
   rw[show ((i:Int)+1)=((i+1:Nat):Int) by omega]
   refine ((uh hA) _ hs2.bel (i+1)).mono ?_
   rintro e w3 ⟨rfl,b3⟩;have hs3:=hs2.below b3;clear d0 d1;have d0:=hs3.c0;have d1:=hs3.c1;obtain⟨y,hy⟩:∃ y,y=cAt l (i+1):=⟨_,rfl⟩;rw[←hy] at hN2 ⊢;clear hy
   by_cases hy46:y=46
   ·subst hy46
    go_wp2_with fail
    rw[show ((i:Int)+2)=((i+2:Nat):Int) by omega]
    refine ((uh hA) _ hs3.bel (i+2)).mono ?_
    rintro e w4 ⟨rfl,b4⟩;have hs4:=hs3.below b4;obtain⟨z,hz⟩:∃ z,z=cAt l (i+2):=⟨_,rfl⟩;rw[←hz] at hN2 ⊢;clear hz
    by_cases hz46:z=46
    ·subst hz46
     have hN3:=Hi (show N=(2,i+3) from by rw[uh hN2];simp)
     go_wp2_with fail
     go_ret3
     exact⟨by rw[uh hN3];go_num,hs4.bel⟩
    ·have e46:(z != 46)=true:=by simpa using hz46
     have hN3:=Hi (show N=(1,i) from by rw[uh hN2,if_neg (fun e=>hz46 e.2)])
     clear hz46
     go_wp2_with fail
     refine (za3 i _).mono ?_
     rintro e w5 ⟨rfl,rfl⟩
     go_wp2_with fail
     go_ret3
     exact⟨by rw[uh hN3];rfl,hs4.bel⟩
   ·have e46:(y != 46)=true:=by simpa using hy46
    have hN3:=Hi (show N=(1,i) from by rw[uh hN2,if_neg (fun e=>hy46 e.1)])
    clear hy46
    go_wp2_with fail
    refine (za3 i _).mono ?_
    rintro e w5 ⟨rfl,rfl⟩
    go_wp2_with fail
    go_ret3
    exact⟨by rw[uh hN3];rfl,hs3.bel⟩
  ·have e46:(x==46)=false:=by simpa using h46
   have hN2:=Hi (show N=(if puB x then (2,i+1)
    else if nsB x then (3,nam l (i+1))
    else if x=45∨mem.digB x then num l i
    else (1,i)) from by rw[uh hN1,if_neg h46])
   clear hN1 h46
   go_wp2_with fail
   refine (za7 x _ x0 x1).mono ?_
   rintro e w3 ⟨rfl,rfl⟩
   cases hpu:puB x
   ·go_wp2_with fail
    refine (zlp x _).mono ?_
    rintro e w3 ⟨rfl,rfl⟩
    cases hns:nsB x
    ·by_cases h45:x=45
     ·subst h45
      have hN3:=Hi (show N=num l i from by rw[uh hN2];simp[hpu,hns])
      clear hN2
      go_wp2_with fail
      refine ((uh hnu) _ hs2.bel).mono ?_
      rintro e w3 ⟨rfl,b3⟩;have hs3:=hs2.below b3
      go_wp2_with fail
      go_ret3
      exact⟨by rw[uh hN3];rfl,hs3.bel⟩
     ·have e45:(x==45)=false:=by simpa using h45
      have H45:=Hi h45;clear h45
      go_wp2_with fail
      refine (zdU x _).mono ?_
      rintro e w3 ⟨rfl,rfl⟩
      cases hdg:mem.digB x
      ·have hN3:=Hi (show N=(1,i) from by rw[uh hN2];simp[hpu,hns,hdg,uh H45])
       clear hN2
       go_wp2_with fail
       refine ((uh htq) _ hs2.bel x34).mono ?_
       rintro e w3 ⟨rfl,b3⟩;have hs3:=hs2.below b3;have e34:(x==34)=false:=by simpa using x34
       clear x34
       go_wp2_with fail
       refine (za3 i _).mono ?_
       rintro e w4 ⟨rfl,rfl⟩
       go_wp2_with fail
       go_ret3
       exact⟨by rw[uh hN3];rfl,hs3.bel⟩
      ·have hN3:=Hi (show N=num l i from by rw[uh hN2];simp[hpu,hns,hdg])
       clear hN2
       go_wp2_with fail
       refine ((uh hnu) _ hs2.bel).mono ?_
       rintro e w3 ⟨rfl,b3⟩;have hs3:=hs2.below b3
       go_wp2_with fail
       go_ret3
       exact⟨by rw[uh hN3];rfl,hs3.bel⟩
    ·have hN3:=Hi (show N=(3,nam l (i+1)) from by rw[uh hN2];simp[hpu,hns])
     clear hN2
     go_wp2_with fail
     refine ((uh hnm) _ hs2.bel).mono ?_
     rintro e w3 ⟨rfl,b3⟩;have hs3:=hs2.below b3
     go_wp2_with fail
     go_ret3
     exact⟨by rw[uh hN3];rfl,hs3.bel⟩
   ·have hN3:=Hi (show N=(2,i+1) from by rw[uh hN2];simp[hpu])
    clear hN2
    go_wp2_with fail
    go_ret3
    exact⟨by rw[uh hN3];go_num,hs2.bel⟩
end lx
namespace rgn
variable {P:Program} {md:Region.Mode} {ops:Array Oper} {Q:Exit→Act→World→Prop} {S:World→Prop}
universe u
theorem _root_.Go.Proofs.YtepmbmbnlmbhhaaGreat.zA{A:Type u}{xs:List A}{i:Nat}(h:i<xs.toArray.size):xs.toArray[i]=xs[i]'(by simpa using h):=List.getElem_toArray h
theorem _root_.Go.Proofs.YtepmbmbnlmbhhaaGreat.zB{A:Type u}(a:A)(r:List A)(h:0<(a::r).length):(a::r)[0]=a:=List.getElem_cons_zero a r h
theorem _root_.Go.Proofs.YtepmbmbnlmbhhaaGreat.zC{A:Type u}(a:A)(r:List A)(i:Nat)(h:i+1<(a::r).length):(a::r)[i+1]=r[i]'(by simpa using h):=List.getElem_cons_succ a r i h
theorem _root_.Go.Proofs.YtepmbmbnlmbhhaaGreat.zD{A:Type u}(l:List A)(i:Nat)(a:A):l.toArray.setIfInBounds i a=(l.set i a).toArray:=List.setIfInBounds_toArray l i a
theorem _root_.Go.Proofs.YtepmbmbnlmbhhaaGreat.zE{A:Type u}{x:A}{xs:List A}{a:A}:(x::xs).set 0 a=a::xs:=List.set_cons_zero
theorem _root_.Go.Proofs.YtepmbmbnlmbhhaaGreat.zF{A:Type u}{x:A}{xs:List A}{i:Nat}{a:A}:(x::xs).set (i+1) a=x::xs.set i a:=List.set_cons_succ
theorem tk{i fuel:Nat}{listed:Array Bool}{a:Act}{w:World}{o:Oper}{v:Value}(ho:ops[i]? = some o)(hk:(Region.noSelect ops && Region.free md ops listed i && (Region.ready md ops listed).contains i)=true)
  (hQ:∀ c a w,Q (.panic c) (a.put o.dst v) w→Q (.panic c) a w) (hy:YieldsIf P ops S o v a) (hS:S w)
  (h:wpAnyH P md ops Q S fuel (listed.setIfInBounds i true) (a.put o.dst v) w):wpAnyH P md ops Q S (fuel+1) listed a w:=by
 simp only[Bool.and_eq_true] at hk;exact wpAnyH_take ho hk.1.1 hk.1.2 hk.2 hQ hy hS h
theorem tl{i fuel:Nat}{listed:Array Bool}{a:Act}{w:World}{o:Oper}{v:Value}(ho:ops[i]? = some o)(hk:(Region.noSelect ops && Region.free md ops listed i && (Region.ready md ops listed).contains i)=true)
  (hQ:∀ c a w,Q (.panic c) (a.put o.dst v) w→Q (.panic c) a w) (hw:Region.wanted o (yielded ops a.tmps)=true) (hy:∀ w,S w→(execOp a.eval o).run P w = .ok (.value v) w) (hS:S w)
  (h:wpAnyH P md ops Q S fuel (listed.setIfInBounds i true) (a.put o.dst v) w):wpAnyH P md ops Q S (fuel+1) listed a w:=tk ho hk hQ (.inl ⟨hw,hy⟩) hS h
theorem u(i:Nat){fuel:Nat}{listed:Array Bool}{a:Act}{w:World}{o:Oper}{v:Value}(hy:∀ w,S w→(execOp a.eval o).run P w = .ok (.value v) w)(hS:S w)
  (h:wpAnyH P md ops Q S fuel (listed.setIfInBounds i true) (a.put o.dst v) w) (ho:ops[i]? = some o:=by rfl) (hk:(Region.noSelect ops && Region.free md ops listed i && (Region.ready md ops listed).contains i)=true:=by kernel_rfl)
  (hQ:∀ c a w,Q (.panic c) (a.put o.dst v) w→Q (.panic c) a w:=by exact fun _ _ _ h=>h) (hw:Region.wanted o (yielded ops a.tmps)=true:=by rfl):wpAnyH P md ops Q S (fuel+1) listed a w:=tl ho hk hQ hw hy hS h
theorem take{i fuel:Nat}{listed:Array Bool}{a:Act}{w:World}(o:Oper)(v:Value)(ho:ops[i]? = some o)(hs:Region.noSelect ops=true)(hf:Region.free md ops listed i=true)(hr:(Region.ready md ops listed).contains i=true)
  (hQ:∀ c a w,Q (.panic c) (a.put o.dst v) w→Q (.panic c) a w) (hw:Region.wanted o (yielded ops a.tmps)=true) (hS:S w) (hy:∀ w,S w→(execOp a.eval o).run P w = .ok (.value v) w)
  (h:wpAnyH P md ops Q S fuel (listed.setIfInBounds i true) (a.put o.dst v) w):wpAnyH P md ops Q S (fuel+1) listed a w:=
 wpAnyH_take ho hs hf hr hQ (.inl ⟨hw,hy⟩) hS h
theorem one{i fuel:Nat}{listed:Array Bool}{a:Act}{w:World}(o:Oper)(ho:ops[i]? = some o)(hr:Region.ready md ops listed=[i])(hw:Region.wanted o (yielded ops a.tmps)=true)
  (h:o.wp P a w (fun a' w'=>S w'∧wpAnyH P md ops Q S fuel (listed.setIfInBounds i true) a' w') Q):wpAnyH P md ops Q S (fuel+1) listed a w:=by
 refine wpAnyH_all hr (by simp) ?_
 intro j hj;obtain rfl:j=i:=by simpa using hj
 unfold wpOp;simp only[ho,hw,if_true];exact .inl h
theorem two{i j fuel:Nat}{listed:Array Bool}{a:Act}{w:World}(oi oj:Oper)(hi:ops[i]? = some oi)(hj:ops[j]? = some oj)(hr:Region.ready md ops listed=[i,j])(wi:Region.wanted oi (yielded ops a.tmps)=true)(wj:Region.wanted oj (yielded ops a.tmps)=true)
  (h1:oi.wp P a w (fun a' w'=>S w'∧wpAnyH P md ops Q S fuel (listed.setIfInBounds i true) a' w') Q)
  (h2:oj.wp P a w (fun a' w'=>S w'∧wpAnyH P md ops Q S fuel (listed.setIfInBounds j true) a' w') Q):wpAnyH P md ops Q S (fuel+1) listed a w:=by
 refine wpAnyH_all hr (by simp) ?_
 intro k hk
 rcases (by simpa using hk:k=i∨k=j) with rfl | rfl
 ·unfold wpOp
  simp only[hi,wi,if_true];exact .inl h1
 ·unfold wpOp
  simp only[hj,wj,if_true];exact .inl h2
theorem zai{fn:Func}{p:Tmp}{ty:TypeId}(h:fn.results = #[.cell p ty])(tmps:Array Value)(w:World)(b o:Nat)(cs:List Value)(d:TypeDesc)(hp:tmps.getD p undef = .pointer (some ⟨b,o,none⟩))(hc:w.rangeAt b o cs)
  (hu:P.underlying ty=some d) (hd:d.isRow=true) (hi:(P.info? ty).map (·.size)=some cs.length):(results fn tmps).run P w = .ok (.agg cs.toArray) w:=by
 have:=run_loadVar_mid (P:=P) w b o ty cs d hc hu hd hi;have hp':tmps[p]?.getD undef = .pointer (some ⟨b,o,none⟩):=by simpa using hp
 simp[results,h,hp',asAddr,this]
theorem zaa{fn:Func}{p u:Tmp}{ty:TypeId}(h:fn.results = #[.cell p ty,.tmp u])(tmps:Array Value)(w:World)(b o:Nat)(cs:List Value)(d:TypeDesc)(hp:tmps.getD p undef = .pointer (some ⟨b,o,none⟩))(hc:w.rangeAt b o cs)
  (hu:P.underlying ty=some d) (hd:d.isRow=true) (hi:(P.info? ty).map (·.size)=some cs.length):(results fn tmps).run P w = .ok (.tuple #[.agg cs.toArray,tmps.getD u undef]) w:=by
 have:=run_loadVar_mid (P:=P) w b o ty cs d hc hu hd hi;have hp':tmps[p]?.getD undef = .pointer (some ⟨b,o,none⟩):=by simpa using hp
 simp[results,h,hp',asAddr,this]
end rgn
namespace dt
theorem zac{w:World}{b:Nat}{arr:Array Value}{t:TypeId}(h:w.heap[b]? = some (.cells arr t (0,0))){o n:Nat}(hn:o+n≤arr.size):w.there b o n:=fun j hj=>by
 refine⟨?_,?_⟩
 ·simp[World.cell?,h];omega
 ·simp[World.frozen?,h]
theorem zcr{w:World}{b:Nat}{arr:Array Value}{t:TypeId}{fr:Nat × Nat}(h:w.heap[b]? = some (.cells arr t fr))(o:Nat):w.cell? ⟨b,o,none⟩=arr[o]? := by
 simp[World.cell?,h]
theorem zak{w:World}{b:Nat}{arr:Array Value}{t:TypeId}(h:w.heap[b]? = some (.cells arr t (0,0)))(o:Nat):w.frozen? ⟨b,o,none⟩=false:=by
 simp[World.frozen?,h]
theorem zad{B:Nat}{w:World}(b:Nat):∀ (vs:List Value) (o:Nat) (w1:World),Below B w w1→B≤b→Below B w (w1.setCells b o vs)
 | [],o,w1,h,hb=>h
 | v::r,o,w1,h,hb=>zad b r (o+1) _ (h.setCell (p:=⟨b,o,none⟩) hb v) hb
theorem zag(b:Nat):∀ (vs:List Value) (o:Nat) (w:World),(w.setCells b o vs).heap.size=w.heap.size
 | [],o,w=>rfl
 | v::r,o,w=>by rw[World.setCells,zag b r (o+1)];simp
theorem zae(b:Nat)(c:Nat)(h:c≠b):∀ (vs:List Value) (o:Nat) (w:World),(w.setCells b o vs).heap[c]? = w.heap[c]?
 | [],o,w=>rfl
 | v::r,o,w=>by rw[World.setCells,zae b c h r (o+1)];exact Below.heap_setCell w ⟨b,o,none⟩ v c h
theorem zab{cs:List Value}(h:cs.all (·.oneCell')=true):cs.toArray.all (·.oneCell')=true:=by simpa using h
theorem zaj{w:World}{b:Nat}{arr:Array Value}{t:TypeId}{fr:Nat × Nat}(h:w.heap[b]? = some (.cells arr t fr))(o:Nat)(v:Value):(w.setCell ⟨b,o,none⟩ v).heap[b]? = some (.cells (arr.setIfInBounds o v) t fr):=by
 simp[World.setCell,Array.getElem?_modify,h]
theorem zap{w:World}{b:Nat}{arr:Array Value}{t:TypeId}{fr:Nat × Nat}(h:w.heap[b]? = some (.cells arr t fr))(o:Nat)(cs:List Value)(hc:∀ j u,cs[j]? = some u→arr[o+j]? = some u):w.rangeAt b o cs:=fun j u hu=>by
 rw[zcr h];exact hc j u hu
structure Kp (B:Nat) (w w':World):Prop where
 os:w'.os=w.os
 tape:w'.tape=w.tape
 output:w'.output=w.output
 size:w.heap.size≤w'.heap.size
 block:∀ k,k<w.heap.size→k≠B→w'.heap[k]? = w.heap[k]?
theorem Kp.refl(B:Nat)(w:World):Kp B w w:=⟨rfl,rfl,rfl,Nat.le_refl _,fun _ _ _=>rfl⟩
theorem Kp.trans{B:Nat}{a b c:World}(h:Kp B a b)(k:Kp B b c):Kp B a c:=
 ⟨k.os.trans h.os,k.tape.trans h.tape,k.output.trans h.output,Nat.le_trans h.size k.size,fun i hi hB=>(k.block i (Nat.lt_of_lt_of_le hi h.size) hB).trans (h.block i hi hB)⟩
theorem Kp.of{B:Nat}{w w':World}(h:Below w.heap.size w w'):Kp B w w':=⟨h.os,h.tape,h.output,h.size,fun k hk _=>h.block k hk⟩
theorem Kp.below{B lo:Nat}{w w':World}(h:Kp B w w')(h1:lo≤B)(h2:lo≤w.heap.size):Below lo w w':=⟨h.os,h.tape,h.output,h.size,fun k hk=>h.block k (by omega) (by omega)⟩
theorem Kp.set{B:Nat}{w w1:World}(h:Kp B w w1)(o:Nat)(v:Value):Kp B w (w1.setCell ⟨B,o,none⟩ v):=
 ⟨h.os,h.tape,h.output,by simpa using h.size,fun k hk hB=>(Below.heap_setCell w1 ⟨B,o,none⟩ v k hB).trans (h.block k hk hB)⟩
theorem Kp.cell{B:Nat}{w w':World}(h:Kp B w w'){b o:Nat}(hb:b<w.heap.size)(hB:b≠B):w'.cell? ⟨b,o,none⟩=w.cell? ⟨b,o,none⟩:=World.cell?_of_block (w:=w) (a:=⟨b,o,none⟩) (h.block b hb hB)
theorem _root_.Go.Proofs.YtepmbmbnlmbhhaaGreat.zG:type_of% (@zcr):=@zcr
end dt
namespace lx
open ints (Hi uh)
open mem (Row)
open cu (Tk)
open dt (zac zab zad)
theorem infoTk:(prog.info? 77).map (·.size)=some 7:=by kernel_rfl
theorem zf5{k:IntKind}{w:World}{b off n c:Nat}{l:List Int}(h:Row k w (some ⟨b,off,none⟩) n c l){i j:Nat}(hij:i≤j)(hj:j≤n):Row k w (some ⟨b,off+i,none⟩) (j-i) (c-i) ((l.take j).drop i):=by
 have hl:=h.len;have hc:=h.le;refine⟨by simp;omega,by omega,(fun e=>by cases e),?_⟩
 rcases h.at_ with h0 | ⟨b',off',e,hlt,hcell⟩
 ·exact .inl (by omega)
 ·simp only[Option.some.injEq,Addr.mk.injEq,and_true] at e
  obtain⟨rfl,rfl⟩:=e;refine .inr ⟨b,off+i,rfl,hlt,fun m hm=>?_⟩
  rw[Nat.add_assoc,hcell (i+m) (by omega)]
  have:i+m<j:=by omega
  simp[List.getD,this]
def tkAt(l:List Int)(i:Nat):Tk:=
 ⟨(rd l true (ign l false i)).1,(mem.posT l (ign l false i)).1,(mem.posT l (ign l false i)).2,ign l false i,(rd l true (ign l false i)).2,mem.encS ((l.take (rd l true (ign l false i)).2).drop (ign l false i)),cu.em⟩
theorem zlm(a:Option Addr)(n c:Nat)(l:List Int)(i:Nat)(w:World)(h:Row .i32 w a n c l)(hn:n≤1099511627776)(hi:i≤n)(hp:Plain l)(ha:a=none∨∃ b off,a=some ⟨b,off,none⟩) :
  Calls prog 75 #[src a n c true,.int .i64 (i:Int)] w fun e w'=>e = .returned (.agg #[.int .i64 (tkAt l i).k,.int .i64 0,.int .i64 0,.int .i64 (tkAt l i).fr,.int .i64 (tkAt l i).to,.string (tkAt l i).tx,.string cu.em])∧Below w.heap.size w w':=by
 have hl:=Hi h.len;have hsb:=Hi (Sb.new w a n c true);have h1:=Hi (fun W (hb:Below w.heap.size w W)=>zkh a n c true l i W (h.below hb) hn hi)
 have g1:=(zey l false i).2 (by rw[h.len];exact hi)
 rw[h.len] at g1;have h2:=Hi (fun W (hb:Below w.heap.size w W)=>znM a n c l (ign l false i) W (h.below hb) hn g1 hp)
 have g2:=zm4 l true (ign l false i) (by rw[h.len];exact g1)
 rw[h.len] at g2;obtain⟨F,hF⟩:∃ F,F=ign l false i:=⟨_,rfl⟩;unfold tkAt;rw[←hF] at h1 h2 g1 g2 ⊢;obtain⟨T,hT⟩:∃ T,T=(rd l true F).2:=⟨_,rfl⟩;obtain⟨K,hK⟩:∃ K,K=(rd l true F).1:=⟨_,rfl⟩;rw[←hT,←hK] at h2 g2 ⊢;clear hT hK hF;have g3:=g2.1;have g4:=g2.2.1;clear g2;unfold src
 go_enter func75,ntmps75
 go_wp2_with fail
 obtain⟨w1,hw1⟩:∃ w1,w1=(w.alloc (.cells #[.slice a n c,.bool true] 113)).alloc (.cells #[Value.int IntKind.i64 0,Value.int IntKind.i64 0,Value.int IntKind.i64 0,Value.int IntKind.i64 0,Value.int IntKind.i64 0,Value.string { data:=#[] },Value.string { data:=#[] }] 77):=⟨_,rfl⟩;have hs1:Sb w w1 a n c true:=by rw[hw1];exact (uh hsb).below (ba)
 have hth:Hid (w1.heap[w.heap.size+1]? = some (.cells #[Value.int IntKind.i64 0,Value.int IntKind.i64 0,Value.int IntKind.i64 0,Value.int IntKind.i64 0,Value.int IntKind.i64 0,Value.string { data:=#[] },Value.string { data:=#[] }] 77 (0,0))):=Hi (by
  rw[hw1];have:=heap_alloc_new (w.alloc (.cells #[.slice a n c,.bool true] 113)) (.cells #[Value.int IntKind.i64 0,Value.int IntKind.i64 0,Value.int IntKind.i64 0,Value.int IntKind.i64 0,Value.int IntKind.i64 0,Value.string { data:=#[] },Value.string { data:=#[] }] 77)
  simpa using this)
 have hz1:w.heap.size+1<w1.heap.size:=by rw[hw1];simp
 rw[←hw1];clear hw1 hsb;refine ((uh h1) w1 hs1.bel).mono ?_
 rintro e w2 ⟨rfl,b2⟩;have hs2:=hs1.below b2;have d0:=hs2.c0;have d1:=hs2.c1
 go_wp2_with fail
 refine ((uh h2) w2 hs2.bel).mono ?_
 rintro e w3 ⟨rfl,b3⟩;have hs3:=hs2.below b3;have b13:=b2.trans (b3.mono b2.size);clear d0 d1 h1 h2;have d0:=hs3.c0;have d1:=hs3.c1
 rcases ha with rfl | ⟨b,off,rfl⟩
 ·have hc0:=h.nil rfl
  subst hc0;have hn0:n=0:=by have:=h.le;omega
  subst hn0;obtain rfl:F=0:=by omega
  obtain rfl:T=0:=by omega
  have hl0:l=[]:=List.eq_nil_of_length_eq_zero (uh hl);subst hl0
  go_wp2_with fail
  refine (mem.zaR none 0 0 [] w3 ⟨rfl,lr _,fun _=>rfl,.inl rfl⟩ (by omega)).mono ?_
  rintro e w4 ⟨rfl,b4⟩;have b14:=b13.trans (b4.mono b13.size);have hbx:=(b14.block (w.heap.size+1) hz1).trans (uh hth);have hbel:=hs1.bel.trans (b14.mono (Nat.le_trans (Nat.le_add_right _ 1) (Nat.le_of_lt hz1)));have hthr:w4.there (w.heap.size+1) 0 7:=zac hbx (by decide)
  have HB:=Hi hbel;clear b13 b14 b4 d0 d1 hbx hbel;obtain⟨S,hS⟩:∃ S,S=mem.encS ([]):=⟨_,rfl⟩;rw[←hS];have HS:=Hi hS;clear hS
  go_wp2_with (first
   | refine wpList_store_mid (by rfl) 77 _ _ (by rfl) (w.heap.size+1) 0 #[.int .i64 K,.int .i64 0,.int .i64 0,.int .i64 (0),.int .i64 (0),.string S,.string ⟨#[]⟩] (by rfl) (by rfl) hthr infoTk (zab (cs:=[.int .i64 K,.int .i64 0,.int .i64 0,.int .i64 (0),.int .i64 (0),.string S,.string ⟨#[]⟩]) (by rfl)) ?_)
  refine bodyPost_ret (rgn.zai rfl _ _ (w.heap.size+1) 0 [.int .i64 K,.int .i64 0,.int .i64 0,.int .i64 (0),.int .i64 (0),.string S,.string ⟨#[]⟩] _ rfl (World.rangeAt_setCells_same _ _ _ _ hthr) underlying77 rfl infoTk) rfl ?_
  exact⟨by first | rfl | (rw[uh HS];simp[cu.em]) | (simp[cu.em,uh HS]),zad _ _ _ _ (uh HB) (Nat.le_add_right _ 1)⟩
 ·have hle:=h.le
  have k1:(F:Int)≤(T:Int):=by omega
  have k2:(T:Int)≤(c:Int):=by omega
  have hrow:=zf5 (h.below hs3.bel) g3 g4
  by_cases hFc:F=c
  ·subst hFc
   have hrow2:Row .i32 w3 (some ⟨b,off,none⟩) (T-F) 0 ((l.take T).drop F):=⟨hrow.len,by omega,(fun e=>by cases e),.inl (by omega)⟩
   go_wp2_with fail
   refine (mem.zaR (some ⟨b,off,none⟩) (T-F) 0 ((l.take T).drop F) w3 hrow2 (by omega)).mono ?_
   rintro e w4 ⟨rfl,b4⟩;have b14:=b13.trans (b4.mono b13.size);have hbx:=(b14.block (w.heap.size+1) hz1).trans (uh hth);have hbel:=hs1.bel.trans (b14.mono (Nat.le_trans (Nat.le_add_right _ 1) (Nat.le_of_lt hz1)));have hthr:w4.there (w.heap.size+1) 0 7:=zac hbx (by decide)
   have HB:=Hi hbel;clear b13 b14 b4 d0 d1 hbx hbel;obtain⟨S,hS⟩:∃ S,S=mem.encS (((l.take T).drop F)):=⟨_,rfl⟩;rw[←hS];have HS:=Hi hS;clear hS
   go_wp2_with (first
    | refine wpList_store_mid (by rfl) 77 _ _ (by rfl) (w.heap.size+1) 0 #[.int .i64 K,.int .i64 0,.int .i64 0,.int .i64 (F:Int),.int .i64 (T:Int),.string S,.string ⟨#[]⟩] (by rfl) (by rfl) hthr infoTk (zab (cs:=[.int .i64 K,.int .i64 0,.int .i64 0,.int .i64 (F:Int),.int .i64 (T:Int),.string S,.string ⟨#[]⟩]) (by rfl)) ?_)
   refine bodyPost_ret (rgn.zai rfl _ _ (w.heap.size+1) 0 [.int .i64 K,.int .i64 0,.int .i64 0,.int .i64 (F:Int),.int .i64 (T:Int),.string S,.string ⟨#[]⟩] _ rfl (World.rangeAt_setCells_same _ _ _ _ hthr) underlying77 rfl infoTk) rfl ?_
   exact⟨by first | rfl | (rw[uh HS];simp[cu.em]) | (simp[cu.em,uh HS]),zad _ _ _ _ (uh HB) (Nat.le_add_right _ 1)⟩
  ·have hFc2:¬(F:Int)=(c:Int):=by omega
   go_wp2_with fail
   refine (mem.zaR (some ⟨b,off+F,none⟩) (T-F) (c-F) ((l.take T).drop F) w3 hrow (by omega)).mono ?_
   rintro e w4 ⟨rfl,b4⟩;have b14:=b13.trans (b4.mono b13.size);have hbx:=(b14.block (w.heap.size+1) hz1).trans (uh hth);have hbel:=hs1.bel.trans (b14.mono (Nat.le_trans (Nat.le_add_right _ 1) (Nat.le_of_lt hz1)));have hthr:w4.there (w.heap.size+1) 0 7:=zac hbx (by decide)
   have HB:=Hi hbel;clear b13 b14 b4 d0 d1 hbx hbel;obtain⟨S,hS⟩:∃ S,S=mem.encS (((l.take T).drop F)):=⟨_,rfl⟩;rw[←hS];have HS:=Hi hS;clear hS
   go_wp2_with (first
    | refine wpList_store_mid (by rfl) 77 _ _ (by rfl) (w.heap.size+1) 0 #[.int .i64 K,.int .i64 0,.int .i64 0,.int .i64 (F:Int),.int .i64 (T:Int),.string S,.string ⟨#[]⟩] (by rfl) (by rfl) hthr infoTk (zab (cs:=[.int .i64 K,.int .i64 0,.int .i64 0,.int .i64 (F:Int),.int .i64 (T:Int),.string S,.string ⟨#[]⟩]) (by rfl)) ?_)
   refine bodyPost_ret (rgn.zai rfl _ _ (w.heap.size+1) 0 [.int .i64 K,.int .i64 0,.int .i64 0,.int .i64 (F:Int),.int .i64 (T:Int),.string S,.string ⟨#[]⟩] _ rfl (World.rangeAt_setCells_same _ _ _ _ hthr) underlying77 rfl infoTk) rfl ?_
   exact⟨by first | rfl | (rw[uh HS];simp[cu.em]) | (simp[cu.em,uh HS]),zad _ _ _ _ (uh HB) (Nat.le_add_right _ 1)⟩
end lx
namespace dt
theorem zj8{P:Program}{t e:TypeId}{size bytes:Nat}{i:TypeInfo}{z:Value}{w:World}{o:Oper}{a:Act}{K:Act→World→Prop}{Q:Exit→Act→World→Prop}(s x:Operand)
  (ho:o.op = .call { callee:=.builtin .append,args:=#[s,x],argTypes:=#[t,t] }) (ht:P.underlying t=some (.slice e)) (hi:P.info? e=some i) (hz:i.zero=some z)
  (hsize:i.size=size) (hby:i.bytes=bytes) (hzs:z.cells.size=size) (hsz:0<size)
  (B n:Nat) (xs:List Value) (sl:Value) (hs:a.eval s=sl) (hrow:w.ownsRow B e size sl n xs) (ds:List Value) (hl:ds.length=size) (h1:∀ u∈ds,u.oneCell'=true)
  (N:Nat) (hN:N=w.heap.size) (hx:a.eval x = .slice (some ⟨N,0,none⟩) 1 1) (hbytes:(n+1) * bytes≤140737488355328) (h63:n+1≤maxLen) (hB:B≤w.heap.size)
  (h:∀ sl' w',w'.ownsRow B e size sl' (n+1) (xs++ds)→Below B w w'→(∀ b,b<w.heap.size→sl.ownBlock≠some b→w'.heap[b]? = w.heap[b]?)→(∀ b,sl'.ownBlock=some b→sl.ownBlock=some b∨w.heap.size≤b)→K (a.put o.dst sl') w'):o.wp P a (w.alloc (.cells ds.toArray e)) K Q:=by
 subst hN
 refine wp_append_lies _ s x t ho B e i z size bytes ht hi hz hsize hby hzs hsz sl n xs hs (World.ownsRow.alloc hrow _) ⟨w.heap.size,0,none⟩ 1 1 ds hx (by rw[hl];omega) (fun j u hu=>by
  rw[Addr.add_mid,Nat.zero_add,World.cell?_alloc_at _ _ _ _ rfl];simpa using hu) h1 (by omega) h63 hbytes (by simp;omega) (w.heap.size+1) (by simp) ?_
 intro g cap w' hrow' hgr hat hlt
 have hold:∀ b,b<w.heap.size→sl.ownBlock≠some b→w'.heap[b]? = w.heap[b]? := fun b hb hne=>by
  rw[hgr.block b (by simp;omega) (fun e=>hne e.symm)]
  exact Below.heap_alloc w _ b hb
 refine h _ w' hrow' (((Below.refl _ _).alloc hB _).grown hgr (by simp;omega) (fun k hk=>(hrow.lt k hk).1)) hold (fun b hb=>?_)
 have hgb:g=b:=Option.some.inj hb;subst hgb
 rcases hat with hat | hat
 ·exact .inl hat
 ·exact .inr (by omega)
theorem zaq{P:Program}{t e:TypeId}{size bytes:Nat}{i:TypeInfo}{z:Value}{w:World}{ops:Array Oper}{rest:List Oper}{o:Oper}{a:Act}{Q:Exit→Act→World→Prop}(hgd:o.guard=none)(s x:Operand)
  (ho:o.op = .call { callee:=.builtin .append,args:=#[s,x],argTypes:=#[t,t] }) (ht:P.underlying t=some (.slice e)) (hi:P.info? e=some i) (hz:i.zero=some z)
  (hsize:i.size=size) (hby:i.bytes=bytes) (hzs:z.cells.size=size) (hsz:0<size)
  (B n:Nat) (xs:List Value) (sl:Value) (hs:a.eval s=sl) (hrow:w.ownsRow B e size sl n xs) (ds:List Value) (hl:ds.length=size) (h1:∀ u∈ds,u.oneCell'=true)
  (N:Nat) (hN:N=w.heap.size) (hx:a.eval x = .slice (some ⟨N,0,none⟩) 1 1) (hbytes:(n+1) * bytes≤140737488355328) (h63:n+1≤maxLen) (hB:B≤w.heap.size)
  (h:∀ sl' w',w'.ownsRow B e size sl' (n+1) (xs++ds)→Below B w w'→(∀ b,b<w.heap.size→sl.ownBlock≠some b→w'.heap[b]? = w.heap[b]?)→(∀ b,sl'.ownBlock=some b→sl.ownBlock=some b∨w.heap.size≤b)→wpList P ops Q rest (a.put o.dst sl') w'):wpList P ops Q (o::rest) a (w.alloc (.cells ds.toArray e)):=
 wpList_plain hgd fun _ hK=>zj8 s x ho ht hi hz hsize hby hzs hsz B n xs sl hs hrow ds hl h1 N hN hx hbytes h63 hB fun sl' w' g b c d=>hK _ _ (h sl' w' g b c d)
theorem zeY{P:Program}{o:Oper}{a:Act}{w w':World}{K:Act→World→Prop}{Q:Exit→Act→World→Prop}(t:TypeId)(x:Operand)(ho:o.op = .buildSlice t 1 #[(0,x)])(v sl:Value)(hx:a.eval x=v)(hr:(Instr.buildSlice t 1 #[(0,v)]).run P w = .ok sl w')
  (h:K (a.put o.dst sl) w'):o.wp P a w K Q:=by
 unfold Oper.wp execOp;simp only[ho,List.map_toArray,List.map_cons,List.map_nil,hx,Sem.run_bind,hr,Result.andThen_ok,Sem.run_pure];exact h
theorem zal{P:Program}{ops:Array Oper}{rest:List Oper}{o:Oper}{a:Act}{w w':World}{Q:Exit→Act→World→Prop}(hgd:o.guard=none)(t:TypeId)(x:Operand)(ho:o.op = .buildSlice t 1 #[(0,x)])(v sl:Value)(hx:a.eval x=v)(hr:(Instr.buildSlice t 1 #[(0,v)]).run P w = .ok sl w')
  (h:wpList P ops Q rest (a.put o.dst sl) w'):wpList P ops Q (o::rest) a w:=
 wpList_plain hgd fun _ hK=>by
  unfold Oper.wp execOp;simp only[ho,List.map_toArray,List.map_cons,List.map_nil,hx,Sem.run_bind,hr,Result.andThen_ok,Sem.run_pure];exact hK _ _ h
structure Grow (t:TypeId) (size:Nat) (w:World) (B:Nat) (l:List Dt) (sl:Value) (G:List Nat):Prop where
 nodup:G.Nodup
 rng:∀ b∈G,B≤b∧b<w.heap.size
 own:∀ b∈G,sl.ownBlock≠some b
 row:∃ xss,w.ownsRow B t size sl l.length xss.flatten∧OwL Ow w l xss G∧∀ xs∈xss,xs.length=size
theorem Grow.nil{t:TypeId}{size:Nat}{w:World}{B:Nat}:Grow t size w B [] (.slice none 0 0) []:=
 ⟨List.nodup_nil,by simp,by simp,[],⟨by simp,.inl ⟨rfl,rfl⟩⟩,⟨rfl,rfl⟩,by simp⟩
theorem zaf{w w':World}{b:Nat}(h:w'.heap[b]? = w.heap[b]?)(j:Nat):w'.cell? ⟨b,j,none⟩=w.cell? ⟨b,j,none⟩:=World.cell?_of_block (w:=w) (a:=⟨b,j,none⟩) h
theorem zaA{w w':World}{B:Nat}{e:TypeId}{size:Nat}{sl:Value}{n:Nat}{xs:List Value}(h:w.ownsRow B e size sl n xs)(hb:∀ b,b<w.heap.size→B≤b→sl.ownBlock=some b→w'.heap[b]? = w.heap[b]?):w'.ownsRow B e size sl n xs:=by
 have hlt:=h.lt;obtain⟨h1,h2⟩:=h;refine⟨h1,?_⟩
 rcases h2 with h2 | ⟨g,cap,cur,hv,hg,hh,r⟩
 ·exact .inl h2
 ·have hob:sl.ownBlock=some g:=by rw[hv];rfl
  exact .inr ⟨g,cap,cur,hv,hg,(hb g (hlt g hob).2 hg hob).trans hh,r⟩
theorem Grow.keep{t:TypeId}{size:Nat}{w w':World}{B:Nat}{l:List Dt}{sl:Value}{G:List Nat}(h:Grow t size w B l sl G)(hs:w.heap.size≤w'.heap.size)
  (hb:∀ b,b<w.heap.size→B≤b→w'.heap[b]? = w.heap[b]?):Grow t size w' B l sl G:=by
 obtain⟨xss,hr,hl,hx⟩:=h.row;have hG:∀ b∈G,w'.heap[b]? = w.heap[b]? := fun b hm=>hb b (h.rng b hm).2 (h.rng b hm).1
 exact⟨h.nodup,fun b hm=>⟨(h.rng b hm).1,Nat.lt_of_lt_of_le (h.rng b hm).2 hs⟩,h.own,xss,zaA hr (fun b h1 h2 _=>hb b h1 h2),OwL.agree (fun w w' e cs F=>Ow.agree e cs F) (fun b hm j=>zaf (hG b hm) j) hl,hx⟩
theorem Grow.kp{t:TypeId}{size:Nat}{w w':World}{B C:Nat}{l:List Dt}{sl:Value}{G:List Nat}(h:Grow t size w B l sl G)(hk:Kp C w w')(hC:C<B):Grow t size w' B l sl G:=
 h.keep hk.size (fun b h1 h2=>hk.block b h1 (by omega))
theorem Grow.form{t:TypeId}{size:Nat}{w:World}{B:Nat}{l:List Dt}{sl:Value}{G:List Nat}(h:Grow t size w B l sl G):∃ a c,sl = .slice a l.length c:=by
 obtain⟨xss,hr,_,_⟩:=h.row
 rcases hr.2 with ⟨e,h3⟩ | ⟨g,cap,cur,e,_⟩
 ·exact⟨none,0,by rw[e,h3]⟩
 ·exact⟨_,_,e⟩
theorem Grow.shut{t:TypeId}{size:Nat}{w:World}{B:Nat}{l:List Dt}{sl:Value}{G:List Nat}(h:Grow t size w B l sl G):∃ (a:Option Addr) (n c:Nat) (F:List Nat),sl = .slice a n c∧n≤c∧c≤maxLen∧(a=none→c=0)∧F.Nodup∧(∀ b∈F,B≤b∧b<w.heap.size)∧n=l.length ∧
  ((a=none∧Dt.of l = .nil∧n=0∧F=[])∨∃ p G',a=some ⟨p,0,none⟩∧F=p::G'∧OwIn w (Dt.of l) size p 0 n G'):=by
 obtain⟨xss,hr,hol,hx⟩:=h.row;have hlt:=hr.lt;have hr2:=hr;obtain⟨h1,h2⟩:=hr
 rcases h2 with ⟨rfl,h3⟩ | ⟨g,cap,cur,rfl,hg,hh,hnc,hcm,r⟩
 ·have hl0:l=[]:=List.eq_nil_of_length_eq_zero h3
  subst hl0;exact⟨none,0,0,[],rfl,Nat.le_refl _,Nat.zero_le _,fun _=>rfl,List.nodup_nil,by simp,rfl,.inl ⟨rfl,rfl,rfl,rfl⟩⟩
 ·refine⟨_,_,_,g::G,rfl,hnc,hcm,(fun e=>by cases e),List.nodup_cons.2 ⟨fun hm=>h.own g hm rfl,h.nodup⟩,?_,rfl,.inr ⟨g,G,rfl,rfl,?_⟩⟩
  ·intro b hb
   rcases List.mem_cons.1 hb with rfl | hb
   ·exact⟨hg,(hlt b rfl).2⟩
   ·exact h.rng b hb
  ·refine OwL.shut l xss G 0 hol hx (fun i u hu=>?_)
   have hi:i<l.length * size:=by
    have:=(List.getElem?_eq_some_iff.1 hu).1
    rw[h1] at this;exact this
   rw[Nat.zero_add];rw[World.ownsRow.cellAt hr2 i (by first | exact hi | omega)]
   exact hu
end dt
end Go.Proofs.YtepmbmbnlmbhhaaGreat
