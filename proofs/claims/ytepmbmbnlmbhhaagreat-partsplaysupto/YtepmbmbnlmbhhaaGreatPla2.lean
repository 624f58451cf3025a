import Derived.Test.YtepmbmbnlmbhhaaGreatPla1
import Derived.Laws.RangeAny
import Derived.Laws.IdiomStrings
set_option linter.unusedVariables false
set_option linter.unusedSimpArgs false
set_option maxHeartbeats 16000000
set_option maxRecDepth 8000
open Go.Proofs.Tryz
namespace Go.Proofs.YtepmbmbnlmbhhaaGreat
open Go.ChangeShapes Go.WideShapes Go.ChangeAt Go.RowKit
namespace mem
theorem ziI{H:Type}{d:DataW H}{l:List (DataW H)}(h:d∈l):Rows.uptoBulk d≤Rows.uptoBulk (.agg l):=by
 have:=zdO h;simp only[Rows.uptoBulk];omega
def Srcs(w:World)(a:Option Addr)(n N:Nat):Prop:=
 n=0∨∃ b off,a=some ⟨b,off,none⟩∧b<w.heap.size∧∀ i,i<n→∃ (aS:Option Addr) (nS cS:Nat) (ct:Bool) (x:Int) (zs:List Int),
  (w.cell? ⟨b,off+i * 3,none⟩=some (.slice aS nS cS)∧w.cell? ⟨b,off+i * 3+1,none⟩=some (.bool ct)∧w.cell? ⟨b,off+i * 3+2,none⟩=some (.int .i64 x)) ∧
  Row .u8 w aS nS cS zs∧Byt zs∧nS≤N∧(Lit.int .i64 x).wf=true
def isAt(l:List Int)(p:Nat)(c:Int):Bool:=decide (p<l.length) && (l.getD p 0==c)
def digB(c:Int):Bool:=decide (48≤c) && decide (c≤57)
def digAt(l:List Int)(p:Nat):Bool:=decide (p<l.length) && digB (l.getD p 0)
def digsF(l:List Int):Nat→Nat→Nat
 | 0,p=>p
 | f+1,p=>if digAt l p then digsF l f (p+1) else p
def digs(l:List Int)(p:Nat):Nat:=digsF l (l.length-p) p
theorem zfD{l:List Int}{p:Nat}(h:digAt l p=true):p<l.length:=by
 unfold digAt at h;simp only[Bool.and_eq_true,decide_eq_true_eq] at h;exact h.1
theorem zbJ{l:List Int}{p:Nat}{c:Int}(h:isAt l p c=true):p<l.length:=by
 unfold isAt at h;simp only[Bool.and_eq_true,decide_eq_true_eq] at h;exact h.1
theorem zaU{l:List Int}{p:Nat}(h:digAt l p=true):digs l p=digs l (p+1):=by
 have hl:=zfD h;unfold digs;rw[show l.length-p=(l.length-(p+1))+1 by omega]
 simp only[digsF,h,if_true]
theorem zaN{l:List Int}{p:Nat}(h:digAt l p=false):digs l p=p:=by
 unfold digs
 cases l.length-p with
 | zero=>rfl
 | succ f=>simp only[digsF,h];rfl
theorem ziZ(l:List Int)(f p:Nat):p≤digsF l f p∧digsF l f p≤p+f:=by
 induction f generalizing p with
 | zero=>simp[digsF]
 | succ f ih =>
  simp only[digsF]
  split
  ·have:=ih (p+1);omega
  ·omega
theorem zcs(l:List Int)(p:Nat):p≤digs l p∧(p≤l.length→digs l p≤l.length):=by
 have:=ziZ l (l.length-p) p;unfold digs;omega
theorem zb7{l:List Int}{p:Nat}(h:digAt l p=true):p+1≤digs l p:=by
 rw[zaU h];exact (zcs l (p+1)).1
theorem znC{l:List Int}{p:Nat}:digAt l (digs l p)=false:=by
 unfold digs
 generalize hf:l.length-p=f
 induction f generalizing p with
 | zero =>
  unfold digsF digAt;have:¬p<l.length:=by omega
  simp[this]
 | succ f ih =>
  simp only[digsF]
  cases h:digAt l p
  ·simpa using h
  ·simpa using ih (p:=p+1) (by omega)
def bWhole(l:List Int)(p:Nat):Nat:=if isAt l p 48 then p+1 else digs l p
def bPart(l:List Int)(p first:Nat):Nat × Nat:=if first=p then (p,p) else if digs l first=first then (p,digs l first) else (digs l first,digs l first)
def bPoint(l:List Int)(p:Nat):Nat:=if isAt l p 46 then p+1 else p
def bMark(l:List Int)(p:Nat):Nat:=if isAt l p 101=false∧isAt l p 69=false then p else if isAt l (p+1) 43=true∨isAt l (p+1) 45=true then p+2 else p+1
def pfxFirst(l:List Int)(p:Nat):Nat:=if isAt l p 45 then p+1 else p
def pfxR(l:List Int)(e:Nat):Nat × Nat:=
 if (bPart l e (bPoint l e)).1=(bPart l e (bPoint l e)).2 then bPart l (bPart l e (bPoint l e)).1 (bMark l (bPart l e (bPoint l e)).1) else bPart l e (bPoint l e)
def pfx(l:List Int)(p:Nat):Nat × Nat × Int:=
 if bWhole l (pfxFirst l p)=pfxFirst l p then (p,pfxFirst l p,0)
 else ((pfxR l (bWhole l (pfxFirst l p))).1,(pfxR l (bWhole l (pfxFirst l p))).2,if (pfxR l (bWhole l (pfxFirst l p))).1 > bWhole l (pfxFirst l p) then 2 else 1)
def stepZ(st c:Int):Int:=
 if st=0∨st=1 then (if c=45∧st=0 then 1 else if c=48 then 2 else if digB c then 3 else -1)
 else if st=2∨st=3 then (if digB c∧st=3 then 3 else if c=46 then 4 else if c=101∨c=69 then 6 else -1)
 else if st=4 then (if digB c then 5 else -1)
 else if st=5 then (if digB c then 5 else if c=101∨c=69 then 6 else -1)
 else if st=6 then (if digB c then 8 else if c=43∨c=45 then 7 else -1)
 else if st=7∨st=8 then (if digB c then 8 else -1)
 else -1
def formZ(st:Int):Int:=if st=2∨st=3 then 1 else if st=5∨st=8 then 2 else 0
def runF(l:List Int):Nat→Int→Nat→Int→Nat→Nat × Nat × Int
 | 0,_,e,f,_=>(e,l.length,f)
 | m+1,st,e,f,k =>
  if stepZ st (l.getD k 0)<0 then (e,k,f)
  else if formZ (stepZ st (l.getD k 0))≠0 then runF l m (stepZ st (l.getD k 0)) (k+1) (formZ (stepZ st (l.getD k 0))) (k+1)
  else runF l m (stepZ st (l.getD k 0)) e f (k+1)
def run(l:List Int)(st:Int)(e:Nat)(f:Int)(k:Nat):Nat × Nat × Int:=runF l (l.length-k) st e f k
theorem zbO{l:List Int}{k:Nat}(h:¬k<l.length)(st:Int)(e:Nat)(f:Int):run l st e f k=(e,l.length,f):=by
 unfold run;rw[show l.length-k=0 by omega]
 rfl
theorem zbN{l:List Int}{k:Nat}(h:k<l.length){st:Int}(hs:stepZ st (l.getD k 0)<0)(e:Nat)(f:Int):run l st e f k=(e,k,f):=by
 unfold run;rw[show l.length-k=(l.length-(k+1))+1 by omega]
 simp only[runF,hs,if_true]
theorem zdF{l:List Int}{k:Nat}(h:k<l.length){st s':Int}(hs:stepZ st (l.getD k 0)=s')(h0:0≤s')(hf:formZ s'=0)(e:Nat)(f:Int):run l st e f k=run l s' e f (k+1):=by
 unfold run;rw[show l.length-k=(l.length-(k+1))+1 by omega]
 simp only[runF,hs,hf,ne_eq,not_true,if_false,show ¬s'<0 by omega]
theorem za5{l:List Int}{k:Nat}(h:k<l.length){st s':Int}(hs:stepZ st (l.getD k 0)=s')(h0:0≤s')(hf:formZ s'≠0)(e:Nat)(f:Int):run l st e f k=run l s' (k+1) (formZ s') (k+1):=by
 unfold run;rw[show l.length-k=(l.length-(k+1))+1 by omega]
 simp only[runF,hs,ne_eq,hf,not_false_eq_true,if_true,show ¬s'<0 by omega,if_false]
theorem zaO{l:List Int}{k:Nat}(h:k<l.length)(c:Int):isAt l k c=(l.getD k 0==c):=by simp[-List.getD_eq_getElem?_getD,isAt,h]
theorem zav{l:List Int}{k:Nat}(h:k<l.length):digAt l k=digB (l.getD k 0):=by simp[-List.getD_eq_getElem?_getD,digAt,h]
theorem zbT{l:List Int}{k:Nat}(h:¬k<l.length)(c:Int):isAt l k c=false:=by simp[-List.getD_eq_getElem?_getD,isAt,h]
theorem zaZ{l:List Int}{k:Nat}(h:¬k<l.length):digAt l k=false:=by simp[-List.getD_eq_getElem?_getD,digAt,h]
theorem ziY{c:Int}(h:digB c=true):c≠45∧c≠43∧c≠46∧c≠101∧c≠69:=by
 unfold digB at h;simp only[Bool.and_eq_true,decide_eq_true_eq] at h;omega
theorem run8(l:List Int)(k:Nat)(hk:k≤l.length):run l 8 k 2 k=(digs l k,digs l k,2):=by
 generalize hm:l.length-k=m
 induction m generalizing k with
 | zero =>
  rw[zbO (by omega),zaN (zaZ (by omega)),show k=l.length by omega]
 | succ m ih =>
  have hl:k<l.length:=by omega
  cases h:digAt l k
  ·rw[zaN h,zbN hl]
   rw[zav hl] at h;simp[-List.getD_eq_getElem?_getD,stepZ,h]
  ·rw[zaU h,←ih (k+1) (by omega) (by omega)]
   rw[zav hl] at h;exact za5 (s':=8) hl (by simp[-List.getD_eq_getElem?_getD,stepZ,h]) (by omega) (by decide) _ _
theorem run7(l:List Int)(k:Nat)(hk:k≤l.length)(e:Nat)(f:Int):run l 7 e f k=if digAt l k then (digs l k,digs l k,2) else (e,k,f):=by
 by_cases hl:k<l.length
 ·cases h:digAt l k
  ·rw[zbN hl]
   ·rfl
   ·rw[zav hl] at h;simp[-List.getD_eq_getElem?_getD,stepZ,h]
  ·rw[zaU h,←run8 l (k+1) (by omega)]
   rw[zav hl] at h;exact za5 (s':=8) hl (by simp[-List.getD_eq_getElem?_getD,stepZ,h]) (by omega) (by decide) _ _
 ·rw[zbO hl,zaZ hl,show k=l.length by omega];rfl
def after6(l:List Int)(k e:Nat)(f:Int):Nat × Nat × Int:=
 if digAt l k then (digs l k,digs l k,2) else if isAt l k 43=true∨isAt l k 45=true then (if digAt l (k+1) then (digs l (k+1),digs l (k+1),2) else (e,k+1,f)) else (e,k,f)
theorem run6(l:List Int)(k:Nat)(hk:k≤l.length)(e:Nat)(f:Int):run l 6 e f k=after6 l k e f:=by
 unfold after6
 by_cases hl:k<l.length
 ·cases h:digAt l k
  ·by_cases hs:isAt l k 43=true∨isAt l k 45=true
   ·rw[if_neg (by simp),if_pos hs,←run7 l (k+1) (by omega) e f]
    rw[zaO hl,zaO hl] at hs;rw[zav hl] at h;refine zdF (s':=7) hl ?_ (by omega) (by decide) _ _
    simp only[beq_iff_eq] at hs;simp[-List.getD_eq_getElem?_getD,stepZ,h,hs]
   ·rw[if_neg (by simp),if_neg hs,zbN hl]
    rw[zaO hl,zaO hl] at hs;rw[zav hl] at h;simp only[beq_iff_eq] at hs;simp[-List.getD_eq_getElem?_getD,stepZ,h,hs]
  ·rw[if_pos rfl,zaU h,←run8 l (k+1) (by omega)]
   rw[zav hl] at h;exact za5 (s':=8) hl (by simp[-List.getD_eq_getElem?_getD,stepZ,h]) (by omega) (by decide) _ _
 ·rw[zbO hl,zaZ hl,zbT hl,zbT hl,show k=l.length by omega];simp
def isE(l:List Int)(k:Nat):Bool:=isAt l k 101 || isAt l k 69
theorem zfQ{l:List Int}{k:Nat}(h:k<l.length):isE l k=true ↔ (l.getD k 0=101∨l.getD k 0=69):=by
 unfold isE;rw[zaO h,zaO h];simp only[Bool.or_eq_true,beq_iff_eq]
theorem zho{l:List Int}{k:Nat}(h:¬k<l.length):isE l k=false:=by simp[isE,zbT h]
def afterE(l:List Int)(d:Nat)(f:Int):Nat × Nat × Int:=if isE l d then after6 l (d+1) d f else (d,d,f)
theorem run5(l:List Int)(k:Nat)(hk:k≤l.length):run l 5 k 2 k=afterE l (digs l k) 2:=by
 generalize hm:l.length-k=m
 induction m generalizing k with
 | zero =>
  rw[zbO (by omega),zaN (zaZ (by omega))]
  unfold afterE;rw[zho (by omega),show k=l.length by omega];rfl
 | succ m ih =>
  have hl:k<l.length:=by omega
  cases h:digAt l k
  ·rw[zaN h]
   unfold afterE;rw[zav hl] at h
   cases he:isE l k
   ·rw[zbN hl]
    ·rfl
    ·have:¬(l.getD k 0=101∨l.getD k 0=69):=fun h=>(by simp[he]:¬isE l k=true) ((zfQ hl).2 h)
     simp[-List.getD_eq_getElem?_getD,stepZ,h,this]
   ·rw[if_pos rfl,←run6 l (k+1) (by omega)]
    refine zdF (s':=6) hl ?_ (by omega) (by decide) _ _
    have:=(zfQ hl).1 he;simp[-List.getD_eq_getElem?_getD,stepZ,h,this]
  ·rw[zaU h,←ih (k+1) (by omega) (by omega)]
   rw[zav hl] at h;exact za5 (s':=5) hl (by simp[-List.getD_eq_getElem?_getD,stepZ,h]) (by omega) (by decide) _ _
theorem run4(l:List Int)(k:Nat)(hk:k≤l.length)(e:Nat)(f:Int):run l 4 e f k=if digAt l k then afterE l (digs l k) 2 else (e,k,f):=by
 by_cases hl:k<l.length
 ·cases h:digAt l k
  ·rw[zbN hl]
   ·rfl
   ·rw[zav hl] at h;simp[-List.getD_eq_getElem?_getD,stepZ,h]
  ·rw[if_pos rfl,zaU h,←run5 l (k+1) (by omega)]
   rw[zav hl] at h;exact za5 (s':=5) hl (by simp[-List.getD_eq_getElem?_getD,stepZ,h]) (by omega) (by decide) _ _
 ·rw[zbO hl,zaZ hl,show k=l.length by omega];rfl
def tailZ(l:List Int)(d:Nat):Nat × Nat × Int:=if isAt l d 46 then (if digAt l (d+1) then afterE l (digs l (d+1)) 2 else (d,d+1,1)) else afterE l d 1
theorem zec(l:List Int)(k:Nat)(hk:k≤l.length)(st:Int)(hst:st=2∨(st=3∧digAt l k=false)):run l st k 1 k=tailZ l k:=by
 unfold tailZ
 by_cases hl:k<l.length
 ·have hnd:¬(digB (l.getD k 0)=true∧st=3):=by
   rcases hst with rfl | ⟨rfl,h⟩
   ·omega
   ·rw[zav hl] at h;simp only[h];simp
  have hstep:stepZ st (l.getD k 0)=if l.getD k 0=46 then 4 else if l.getD k 0=101∨l.getD k 0=69 then 6 else -1:=by
   unfold stepZ;rw[if_neg (by omega),if_pos (by omega),if_neg hnd]
  cases h:isAt l k 46
  ·rw[zaO hl] at h
   have h46:¬l.getD k 0=46:=by simpa[-List.getD_eq_getElem?_getD] using h
   rw[if_neg h46] at hstep;unfold afterE
   cases he:isE l k
   ·have h2:=fun h=>(by simp[he]:¬isE l k=true) ((zfQ hl).2 h)
    rw[if_neg h2] at hstep;rw[zbN hl (by omega)]
    rfl
   ·have h2:=(zfQ hl).1 he
    rw[if_pos h2] at hstep;rw[if_neg (by simp),if_pos rfl,←run6 l (k+1) (by omega)]
    exact zdF (s':=6) hl hstep (by omega) (by decide) _ _
  ·rw[zaO hl] at h
   have h46:l.getD k 0=46:=by simpa[-List.getD_eq_getElem?_getD] using h
   rw[if_pos h46] at hstep;rw[if_pos rfl,←run4 l (k+1) (by omega)]
   exact zdF (s':=4) hl hstep (by omega) (by decide) _ _
 ·rw[zbO hl,zbT hl]
  have e:afterE l k 1=(k,k,1):=by unfold afterE;rw[zho hl];rfl
  rw[e,show k=l.length by omega];rfl
theorem run3(l:List Int)(k:Nat)(hk:k≤l.length):run l 3 k 1 k=tailZ l (digs l k):=by
 generalize hm:l.length-k=m
 induction m generalizing k with
 | zero =>
  have hd:digAt l k=false:=zaZ (by omega)
  rw[zaN hd];exact zec l k hk 3 (.inr ⟨rfl,hd⟩)
 | succ m ih =>
  have hl:k<l.length:=by omega
  cases h:digAt l k
  ·rw[zaN h]
   exact zec l k hk 3 (.inr ⟨rfl,h⟩)
  ·rw[zaU h,←ih (k+1) (by omega) (by omega)]
   rw[zav hl] at h;exact za5 (s':=3) hl (by simp[-List.getD_eq_getElem?_getD,stepZ,h]) (by omega) (by decide) _ _
def wholeZ(l:List Int)(p k:Nat):Nat × Nat × Int:=if isAt l k 48 then tailZ l (k+1) else if digAt l k then tailZ l (digs l k) else (p,k,0)
theorem zeR(l:List Int)(k:Nat)(hk:k≤l.length)(st:Int)(hst:st=1∨(st=0∧isAt l k 45=false))(p:Nat):run l st p 0 k=wholeZ l p k:=by
 unfold wholeZ
 by_cases hl:k<l.length
 ·have hstep:stepZ st (l.getD k 0)=if l.getD k 0=48 then 2 else if digB (l.getD k 0) then 3 else -1:=by
   unfold stepZ;rw[if_pos (by omega),if_neg]
   rintro ⟨h1,h2⟩
   rcases hst with rfl | ⟨rfl,h⟩
   ·omega
   ·rw[zaO hl] at h;simp[-List.getD_eq_getElem?_getD] at h;exact h h1
  cases h:isAt l k 48
  ·rw[zaO hl] at h
   rw[if_neg (by simpa[-List.getD_eq_getElem?_getD] using h)] at hstep
   cases hd:digAt l k
   ·rw[zav hl] at hd
    rw[hd,if_neg (by simp)] at hstep
    rw[zbN hl (by omega)];rfl
   ·rw[if_neg (by simp),if_pos rfl,zaU hd,←run3 l (k+1) (by omega)]
    rw[zav hl] at hd;rw[hd,if_pos rfl] at hstep;exact za5 (s':=3) hl hstep (by omega) (by decide) _ _
  ·rw[zaO hl] at h
   rw[if_pos (by simpa[-List.getD_eq_getElem?_getD] using h)] at hstep
   rw[if_pos rfl,←zec l (k+1) (by omega) 2 (.inl rfl)]
   exact za5 (s':=2) hl hstep (by omega) (by decide) _ _
 ·rw[zbO hl,zbT hl,zaZ hl,show k=l.length by omega];rfl
theorem run0(l:List Int)(p:Nat)(hp:p≤l.length):run l 0 p 0 p=wholeZ l p (pfxFirst l p):=by
 unfold pfxFirst
 cases h:isAt l p 45
 ·exact zeR l p hp 0 (.inr ⟨rfl,h⟩) p
 ·have hl:=zbJ h
  rw[if_pos rfl,←zeR l (p+1) (by omega) 1 (.inl rfl) p]
  rw[zaO hl] at h;exact zdF (s':=1) hl (by simp[-List.getD_eq_getElem?_getD] at h;simp[-List.getD_eq_getElem?_getD,stepZ,h]) (by omega) (by decide) _ _
theorem zcN(l:List Int)(p first:Nat)(h:p<first):bPart l p first=if digAt l first then (digs l first,digs l first) else (p,first):=by
 unfold bPart;rw[if_neg (by omega)]
 cases hd:digAt l first
 ·rw[zaN hd];simp
 ·have:=zb7 hd
  rw[if_neg (by omega)];rfl
theorem zkJ(l:List Int)(d:Nat):bMark l d=if isE l d then (if isAt l (d+1) 43=true∨isAt l (d+1) 45=true then d+2 else d+1) else d:=by
 unfold bMark isE
 cases h1:isAt l d 101 <;> cases h2:isAt l d 69 <;> simp
theorem zeK(l:List Int)(d:Nat)(f:Int):afterE l d f=((bPart l d (bMark l d)).1,(bPart l d (bMark l d)).2,if (bPart l d (bMark l d)).1 > d then 2 else f):=by
 rw[zkJ];unfold afterE after6
 cases he:isE l d
 ·simp[bPart]
 ·simp only[if_true]
  cases hd:digAt l (d+1)
  ·by_cases hs:isAt l (d+1) 43=true∨isAt l (d+1) 45=true
   ·rw[if_pos hs,if_pos hs,zcN l d (d+2) (by omega)]
    cases hd2:digAt l (d+2)
    ·simp
    ·have:=zb7 hd2
     simp[show d<digs l (d+2) by omega]
   ·rw[if_neg hs,if_neg hs,zcN l d (d+1) (by omega),hd]
    simp
  ·have hns:¬(isAt l (d+1) 43=true∨isAt l (d+1) 45=true):=by
    have hl:=zfD hd;rw[zav hl] at hd;rw[zaO hl,zaO hl];have:=ziY hd;simp only[beq_iff_eq];omega
   have:=zb7 hd;rw[if_neg hns,if_neg hns,zcN l d (d+1) (by omega),hd]
   simp[show d<digs l (d+1) by omega]
theorem zeL(l:List Int)(e:Nat):tailZ l e=((pfxR l e).1,(pfxR l e).2,if (pfxR l e).1 > e then 2 else 1):=by
 unfold tailZ pfxR bPoint
 cases h:isAt l e 46
 ·have e1:bPart l e e=(e,e):=by simp[bPart]
  simp only[e1,if_true,if_false,Bool.false_eq_true];exact zeK l e 1
 ·simp only[if_true]
  rw[zcN l e (e+1) (by omega)]
  cases hd:digAt l (e+1)
  ·simp
  ·have:=zb7 hd
   simp only[if_true];rw[zeK]
   have h2:digs l (e+1)≤(bPart l (digs l (e+1)) (bMark l (digs l (e+1)))).1:=by
    unfold bPart
    repeat' split
    ·exact Nat.le_refl _
    ·exact Nat.le_refl _
    ·rename_i h3 h4
     have h5:=(zcs l (bMark l (digs l (e+1)))).1
     have:digs l (e+1)≤bMark l (digs l (e+1)):=by
      unfold bMark
      repeat' split
      all_goals omega
     simp only;omega
   have h3:(bPart l (digs l (e+1)) (bMark l (digs l (e+1)))).1 > e:=by omega
   rw[if_pos h3]
   split <;> rfl
theorem zh4(l:List Int)(p:Nat)(hp:p≤l.length):run l 0 p 0 p=pfx l p:=by
 rw[run0 l p hp];unfold wholeZ pfx bWhole
 cases h:isAt l (pfxFirst l p) 48
 ·simp only[Bool.false_eq_true,if_false]
  cases hd:digAt l (pfxFirst l p)
  ·rw[zaN hd];simp
  ·have:=zb7 hd
   rw[if_neg (by omega:¬digs l (pfxFirst l p)=pfxFirst l p),zeL];rfl
 ·simp only[if_true]
  rw[if_neg (by omega),zeL]
theorem zgj{l:List Int}{p:Nat}(h:p≤l.length):bWhole l p≤l.length:=by
 unfold bWhole
 split
 ·rename_i e;exact zbJ e
 ·exact (zcs l p).2 h
theorem zfZ{l:List Int}{p:Nat}(h:p≤l.length):bPoint l p≤l.length:=by
 unfold bPoint
 split
 ·rename_i e;exact zbJ e
 ·exact h
theorem zhI{l:List Int}{p:Nat}(h:p≤l.length):bMark l p≤l.length:=by
 unfold bMark
 split
 ·exact h
 ·rename_i e
  split
  ·rename_i e2
   rcases e2 with e2 | e2
   ·exact zbJ e2
   ·exact zbJ e2
  ·cases h1:isAt l p 101
   ·cases h2:isAt l p 69
    ·exact absurd ⟨h1,h2⟩ e
    ·exact zbJ h2
   ·exact zbJ h1
theorem zhZ{l:List Int}{p f:Nat}(h:p≤l.length)(hf:f≤l.length):(bPart l p f).1≤l.length∧(bPart l p f).2≤l.length:=by
 unfold bPart;have:=(zcs l f).2 hf
 repeat' split
 all_goals exact⟨by simp only;omega,by simp only;omega⟩
theorem zfY(l:List Int)(p:Nat)(hp:p≤l.length):(pfx l p).1≤l.length∧(pfx l p).2.1≤l.length:=by
 rw[←zh4 l p hp];unfold run
 generalize hm:l.length-p=m
 have:∀ (m:Nat) (st:Int) (e:Nat) (f:Int) (k:Nat),e≤l.length→k+m≤l.length→(runF l m st e f k).1≤l.length∧(runF l m st e f k).2.1≤l.length:=by
  intro m
  induction m with
  | zero=>intro st e f k he hk;exact⟨he,Nat.le_refl _⟩
  | succ m ih =>
   intro st e f k he hk;simp only[runF]
   repeat' split
   ·exact⟨he,by simp only;omega⟩
   ·exact ih _ _ _ _ (by omega) (by omega)
   ·exact ih _ _ _ _ he (by omega)
 exact this m 0 p 0 p hp (by omega)
end mem
namespace lx
open mem (pfx digB zfY)
def cAt(l:List Int)(i:Nat):Int:=if i<l.length then l.getD i 0 else -1
def blB(c:Int):Bool:=decide (c=9∨c=10∨c=13∨c=32∨c=44∨c=65279)
def soB(c:Int):Bool:=decide (c=9∨c=10∨c=13∨(32≤c∧c≤55295)∨(57344≤c∧c≤65535))
def nsB(c:Int):Bool:=decide ((65≤c∧c≤90)∨(97≤c∧c≤122)∨c=95)
def nrB(c:Int):Bool:=decide (((65≤c∧c≤90)∨(97≤c∧c≤122)∨c=95)∨(48≤c∧c≤57))
def puL:List Int:=[33,36,38,40,41,58,61,64,91,93,123,124,125]
def puB(c:Int):Bool:=puL.contains c
theorem zaI{l:List Int}{i:Nat}(h:l.length≤i):cAt l i = -1:=if_neg (by omega)
theorem zbk{l:List Int}{i:Nat}(h:i<l.length):cAt l i=l.getD i 0:=if_pos h
theorem zaE{l:List Int}{i:Nat}{c:Int}(h:cAt l i=c)(hc:c ≠ -1):i<l.length:=by
 rcases Nat.lt_or_ge i l.length with h1 | h1
 ·exact h1
 ·rw[zaI h1] at h;exact absurd h.symm hc
def ignF(l:List Int):Nat→Bool→Nat→Nat
 | 0,_,i=>i
 | f+1,false,i=>if blB (cAt l i) then ignF l f false (i+1) else if cAt l i=35 then ignF l f true (i+1) else i
 | f+1,true,i=>if cAt l i=10∨cAt l i=13 then ignF l f false (i+1) else if soB (cAt l i) then ignF l f true (i+1) else i
def ign(l:List Int)(b:Bool)(i:Nat):Nat:=ignF l (l.length+1-i) b i
theorem zex(l:List Int)(i:Nat):ign l false i=if blB (cAt l i) then ign l false (i+1) else if cAt l i=35 then ign l true (i+1) else i:=by
 unfold ign
 rcases Nat.lt_or_ge i l.length with h | h
 ·rw[show l.length+1-i=(l.length+1-(i+1))+1 by omega];rfl
 ·rw[zaI h]
  cases l.length+1-i with
  | zero=>simp[ignF,blB]
  | succ f=>simp[ignF,blB,zaI h]
theorem zgs(l:List Int)(i:Nat):ign l true i=if cAt l i=10∨cAt l i=13 then ign l false (i+1) else if soB (cAt l i) then ign l true (i+1) else i:=by
 unfold ign
 rcases Nat.lt_or_ge i l.length with h | h
 ·rw[show l.length+1-i=(l.length+1-(i+1))+1 by omega];rfl
 ·rw[zaI h]
  cases l.length+1-i with
  | zero=>simp[ignF,soB]
  | succ f=>simp[ignF,soB,zaI h]
theorem zk3(l:List Int)(f:Nat)(b:Bool)(i:Nat):i≤ignF l f b i∧(i≤l.length→ignF l f b i≤l.length):=by
 induction f generalizing b i with
 | zero=>simp[ignF]
 | succ f ih =>
  have hl:∀ c:Int,cAt l i=c→c ≠ -1→i+1≤l.length:=fun c h hc=>zaE h hc
  have a1:=ih false (i+1);have a2:=ih true (i+1)
  cases b <;> simp only[ignF]
  ·split
   ·rename_i h
    have:=hl _ rfl (fun e=>by rw[e] at h;simp[blB] at h)
    omega
   ·split
    ·rename_i h
     have:=hl _ h (by decide)
     omega
    ·omega
  ·split
   ·rename_i h
    have:=hl _ rfl (fun e=>by rw[e] at h;simp at h)
    omega
   ·split
    ·rename_i h
     have:=hl _ rfl (fun e=>by rw[e] at h;simp[soB] at h)
     omega
    ·omega
theorem zey(l:List Int)(b:Bool)(i:Nat):i≤ign l b i∧(i≤l.length→ign l b i≤l.length):=zk3 l _ b i
def namF(l:List Int):Nat→Nat→Nat
 | 0,i=>i
 | f+1,i=>if nrB (cAt l i) then namF l f (i+1) else i
def nam(l:List Int)(i:Nat):Nat:=namF l (l.length+1-i) i
theorem zeI(l:List Int)(i:Nat):nam l i=if nrB (cAt l i) then nam l (i+1) else i:=by
 unfold nam
 rcases Nat.lt_or_ge i l.length with h | h
 ·rw[show l.length+1-i=(l.length+1-(i+1))+1 by omega];rfl
 ·rw[zaI h]
  cases l.length+1-i with
  | zero=>simp[namF,nrB]
  | succ f=>simp[namF,nrB,zaI h]
theorem zlj(l:List Int)(f:Nat)(i:Nat):i≤namF l f i∧(i≤l.length→namF l f i≤l.length):=by
 induction f generalizing i with
 | zero=>simp[namF]
 | succ f ih =>
  have a1:=ih (i+1);simp only[namF]
  split
  ·rename_i h
   have:=zaE (l:=l) (i:=i) rfl (fun e=>by rw[e] at h;simp[nrB] at h)
   omega
  ·omega
theorem zkp(l:List Int)(i:Nat):i≤nam l i∧(i≤l.length→nam l i≤l.length):=zlj l _ i
def num(l:List Int)(i:Nat):Int × Nat:=
 if cAt l (pfx l i).1=46∨nrB (cAt l (pfx l i).1) then (1,i) else if (pfx l i).2.2=1 then (4,(pfx l i).1) else if (pfx l i).2.2=2 then (5,(pfx l i).1) else (1,i)
theorem zfv(l:List Int)(p f:Nat)(h:p≤f):p≤(mem.bPart l p f).1:=by
 unfold mem.bPart
 split
 ·exact Nat.le_refl _
 ·split
  ·exact Nat.le_refl _
  ·exact Nat.le_trans h (mem.zcs l f).1
theorem zh3(l:List Int)(p:Nat):(pfx l p).2.2=0∨p<(pfx l p).1:=by
 unfold pfx
 split
 ·exact .inl rfl
 ·rename_i h
  right
  have h1:p≤mem.pfxFirst l p:=by unfold mem.pfxFirst;split <;> omega
  have h2:mem.pfxFirst l p≤mem.bWhole l (mem.pfxFirst l p):=by
   unfold mem.bWhole
   split
   ·omega
   ·exact (mem.zcs l _).1
  have h3:∀ e,e≤(mem.pfxR l e).1:=fun e=>by
   have hp:∀ q,q≤mem.bPoint l q:=fun q=>by unfold mem.bPoint;split <;> omega
   have hm:∀ q,q≤mem.bMark l q:=fun q=>by unfold mem.bMark;split;omega;split <;> omega
   have h4:=zfv l e (mem.bPoint l e) (hp e);unfold mem.pfxR
   split
   ·exact Nat.le_trans h4 (zfv l _ _ (hm _))
   ·exact h4
  have:=h3 (mem.bWhole l (mem.pfxFirst l p))
  show p<(mem.pfxR l (mem.bWhole l (mem.pfxFirst l p))).1
  omega
theorem zkv(l:List Int)(i:Nat)(hi:i≤l.length):i≤(num l i).2∧(num l i).2≤l.length∧((num l i).1=1∨i<(num l i).2)∧(num l i).1≠0:=by
 have h1:=zfY l i hi;have h2:=zh3 l i;unfold num
 split
 ·exact⟨Nat.le_refl _,hi,.inl rfl,by simp⟩
 ·split
  ·rename_i h
   have:i<(pfx l i).1:=by rcases h2 with h2 | h2;rw[h] at h2;cases h2;exact h2
   exact⟨by omega,h1.1,.inr this,by simp⟩
  ·split
   ·rename_i h
    have:i<(pfx l i).1:=by rcases h2 with h2 | h2;rw[h] at h2;cases h2;exact h2
    exact⟨by omega,h1.1,.inr this,by simp⟩
   ·exact⟨Nat.le_refl _,hi,.inl rfl,by simp⟩
def rd(l:List Int)(cl:Bool)(i:Nat):Int × Nat:=
 if i=l.length∧cl=true then (0,i)
 else if cAt l i=46 then (if cAt l (i+1)=46∧cAt l (i+2)=46 then (2,i+3) else (1,i))
 else if puB (cAt l i) then (2,i+1)
 else if nsB (cAt l i) then (3,nam l (i+1))
 else if cAt l i=45∨digB (cAt l i) then num l i
 else (1,i)
theorem zm4(l:List Int)(cl:Bool)(i:Nat)(hi:i≤l.length):i≤(rd l cl i).2∧(rd l cl i).2≤l.length∧((rd l cl i).1=0∨(rd l cl i).1=1∨i<(rd l cl i).2):=by
 unfold rd
 split
 ·exact⟨Nat.le_refl _,hi,.inl rfl⟩
 split
 ·split
  ·rename_i h
   have:=zaE h.2 (by decide)
   exact⟨by show i≤i+3;omega,this,.inr (.inr (by show i<i+3;omega))⟩
  ·exact⟨Nat.le_refl _,hi,.inr (.inl rfl)⟩
 split
 ·rename_i h
  have:=zaE (l:=l) (i:=i) rfl (fun e=>by rw[e] at h;revert h;decide)
  exact⟨Nat.le_succ _,this,.inr (.inr (Nat.lt_succ_self _))⟩
 split
 ·rename_i h
  have:=zaE (l:=l) (i:=i) rfl (fun e=>by rw[e] at h;revert h;decide)
  have h2:=zkp l (i+1);exact⟨by show i≤nam l (i+1);omega,h2.2 this,.inr (.inr h2.1)⟩
 split
 ·have:=zkv l i hi
  exact⟨this.1,this.2.1,by rcases this.2.2.1 with h | h;exact .inr (.inl h);exact .inr (.inr h)⟩
 ·exact⟨Nat.le_refl _,hi,.inr (.inl rfl)⟩
end lx
namespace mem
open ints (Hi uh)
theorem is_i(a:Option Addr)(n c:Nat)(l:List Int)(p:Nat)(x:Int)(w:World)(h:Row .i32 w a n c l)(hn:n≤4611686018427387904)(hp:p≤4611686018427387904) :
  Calls prog 153 #[.slice a n c,.int .i64 (p:Int),.int .i32 x] w fun e w'=>e = .returned (.bool (isAt l p x))∧Below w.heap.size w w':=by
 by_cases hlt:p<n
 ·rcases h.at_ with h0 | ⟨b,off,rfl,hbw,hcell⟩
  ·omega
  have c1:=hcell p hlt;have HI:=Hi (show isAt l p x=(l.getD p 0==x) from zaO (by rw[h.len];exact hlt) x)
  have pi:(p:Int)<(n:Int):=by omega
  rw[uh HI]
  generalize l.getD p 0=y at *
  clear hcell
  go_enter func153,ntmps153
  cases e1:(y==x)
  all_goals
   go_wp2
   go_ret
   exact⟨rfl,Below.refl _ _⟩
 ·have HI:=Hi (show isAt l p x=false from zbT (by rw[h.len];exact hlt) x)
  have pi:¬(p:Int)<(n:Int):=by omega
  rw[uh HI]
  go_enter func153,ntmps153
  go_wp2
  go_ret
  exact⟨rfl,Below.refl _ _⟩
theorem zkd(a:Option Addr)(n c:Nat)(l:List Int)(p:Nat)(w:World)(h:Row .i32 w a n c l)(hn:n≤4611686018427387904)(hp:p≤4611686018427387904) :
  Calls prog 171 #[.slice a n c,.int .i64 (p:Int)] w fun e w'=>e = .returned (.int .i64 (digs l p:Nat))∧Below w.heap.size w w':=by
 go_enter func171,ntmps171
 go_wp2
 go_loopw [1] (fun v wr=>∃ k:Nat,k≤4611686018427387904∧v = .int .i64 k∧digs l p=digs l k∧Below w.heap.size w wr) (fun v _=>n-(intOf v).toNat)
 case atStart=>exact⟨p,hp,rfl,rfl,Below.refl _ _⟩
 case round =>
  obtain⟨k,hk,rfl,heq,hbel⟩:=hrel;have HE:=Hi heq;clear heq
  by_cases hlt:k<n
  ·rcases h.at_ with h0 | ⟨b,off,rfl,hbw,hcell⟩
   ·omega
   have c1:=(hbel.cell (p:=⟨b,off+k,none⟩) hbw).trans (hcell k hlt);have HD:=Hi (show digAt l k=digB (l.getD k 0) from zav (by rw[h.len];exact hlt))
   have ki:(k:Int)<(n:Int):=by omega
   generalize l.getD k 0=y at *
   clear hcell
   by_cases h1:48≤y
   ·by_cases h2:y≤57
    ·have hd:=Hi (show digAt l k=true from by rw[uh HD];simp[digB,h1,h2])
     go_wp2
     go_roundw
     case rel=>exact⟨k+1,by omega,by go_num,by rw[uh HE,zaU (uh hd)],hbel⟩
     case measure=>simp[intOf];omega
    ·have hd:=Hi (show digAt l k=false from by rw[uh HD];simp[digB,h1,h2])
     go_wp2
     go_ret
     rw[uh HE,zaN (uh hd)];exact⟨rfl,hbel⟩
   ·have hd:=Hi (show digAt l k=false from by rw[uh HD];simp[digB,h1])
    go_wp2
    go_ret
    rw[uh HE,zaN (uh hd)];exact⟨rfl,hbel⟩
  ·have ki:¬(k:Int)<(n:Int):=by omega
   have hd:=Hi (show digAt l k=false from zaZ (by rw[h.len];exact hlt))
   go_wp2
   go_ret
   rw[uh HE,zaN (uh hd)];exact⟨rfl,hbel⟩
theorem zjg(a:Option Addr)(n c:Nat)(l:List Int)(p:Nat)(q:Int)(hq:q=(p:Int))(x:Int)(w:World)(h:Row .i32 w a n c l)(hn:n≤4611686018427387904)(hp:p≤4611686018427387904) :
  Calls prog 153 #[.slice a n c,.int .i64 q,.int .i32 x] w fun e w'=>e = .returned (.bool (isAt l p x))∧Below w.heap.size w w':=by
 subst hq;exact is_i a n c l p x w h hn hp
theorem zh5(a:Option Addr)(n c:Nat)(l:List Int)(p:Nat)(w:World)(h:Row .i32 w a n c l)(hn:n≤4611686018427387904)(hp:p≤4611686018427387904) :
  Calls prog 156 #[.slice a n c,.int .i64 (p:Int)] w fun e w'=>e = .returned (.int .i64 (bPoint l p:Nat))∧Below w.heap.size w w':=by
 go_enter func156,ntmps156
 go_wp2_with fail
 refine (is_i a n c l p 46 w h hn hp).mono ?_
 rintro e w1 ⟨rfl,b1⟩
 cases e1:isAt l p 46
 all_goals
  go_wp2
  go_ret
  exact⟨by unfold bPoint;rw[e1];go_num,b1⟩
theorem zko(a:Option Addr)(n c:Nat)(l:List Int)(p:Nat)(w:World)(h:Row .i32 w a n c l)(hn:n≤4611686018427387904)(hp:p≤4611686018427387903) :
  Calls prog 157 #[.slice a n c,.int .i64 (p:Int)] w fun e w'=>e = .returned (.int .i64 (bMark l p:Nat))∧Below w.heap.size w w':=by
 go_enter func157,ntmps157
 go_wp2_with fail
 refine (is_i a n c l p 101 w h hn (by omega)).mono ?_
 rintro e w1 ⟨rfl,b1⟩
 cases e1:isAt l p 101
 ·go_wp2_with fail
  refine (is_i a n c l p 69 w1 (h.below b1) hn (by omega)).mono ?_
  rintro e w2 ⟨rfl,b2⟩;have b2:=b1.trans (b2.mono b1.size)
  cases e2:isAt l p 69
  ·go_wp2
   go_ret
   exact⟨by unfold bMark;rw[if_pos ⟨e1,e2⟩];rfl,b2⟩
  ·go_wp2_with fail
   refine (zjg a n c l (p+1) _ (by omega) 43 w2 (h.below b2) hn (by omega)).mono ?_
   rintro e w3 ⟨rfl,b3⟩;have b3:=b2.trans (b3.mono b2.size)
   cases e3:isAt l (p+1) 43
   ·go_wp2_with fail
    refine (zjg a n c l (p+1) _ (by omega) 45 w3 (h.below b3) hn (by omega)).mono ?_
    rintro e w4 ⟨rfl,b4⟩;have b4:=b3.trans (b4.mono b3.size)
    cases e4:isAt l (p+1) 45
    ·go_wp2
     go_ret
     exact⟨by unfold bMark;rw[if_neg (by simp[e2]),if_neg (by simp[e3,e4])];go_num,b4⟩
    ·go_wp2
     go_ret
     exact⟨by unfold bMark;rw[if_neg (by simp[e2]),if_pos (.inr e4)];go_num,b4⟩
   ·go_wp2
    go_ret
    exact⟨by unfold bMark;rw[if_neg (by simp[e2]),if_pos (.inl e3)];go_num,b3⟩
 ·go_wp2_with fail
  refine (zjg a n c l (p+1) _ (by omega) 43 w1 (h.below b1) hn (by omega)).mono ?_
  rintro e w3 ⟨rfl,b3⟩;have b3:=b1.trans (b3.mono b1.size)
  cases e3:isAt l (p+1) 43
  ·go_wp2_with fail
   refine (zjg a n c l (p+1) _ (by omega) 45 w3 (h.below b3) hn (by omega)).mono ?_
   rintro e w4 ⟨rfl,b4⟩;have b4:=b3.trans (b4.mono b3.size)
   cases e4:isAt l (p+1) 45
   ·go_wp2
    go_ret
    exact⟨by unfold bMark;rw[if_neg (by simp[e1]),if_neg (by simp[e3,e4])];go_num,b4⟩
   ·go_wp2
    go_ret
    exact⟨by unfold bMark;rw[if_neg (by simp[e1]),if_pos (.inr e4)];go_num,b4⟩
  ·go_wp2
   go_ret
   exact⟨by unfold bMark;rw[if_neg (by simp[e1]),if_pos (.inl e3)];go_num,b3⟩
theorem zl3(a:Option Addr)(n c:Nat)(l:List Int)(p:Nat)(w:World)(h:Row .i32 w a n c l)(hn:n≤4611686018427387904)(hp:p≤4611686018427387904) :
  Calls prog 154 #[.slice a n c,.int .i64 (p:Int)] w fun e w'=>e = .returned (.int .i64 (bWhole l p:Nat))∧Below w.heap.size w w':=by
 go_enter func154,ntmps154
 go_wp2_with fail
 refine (is_i a n c l p 48 w h hn hp).mono ?_
 rintro e w1 ⟨rfl,b1⟩
 cases e1:isAt l p 48
 ·go_wp2_with fail
  refine (zkd a n c l p w1 (h.below b1) hn hp).mono ?_
  rintro e w2 ⟨rfl,b2⟩;have b2:=b1.trans (b2.mono b1.size)
  go_wp2
  go_ret
  exact⟨by unfold bWhole;rw[e1];rfl,b2⟩
 ·go_wp2
  go_ret
  exact⟨by unfold bWhole;rw[e1];go_num,b1⟩
theorem zgk(a:Option Addr)(n c:Nat)(l:List Int)(p:Nat)(q:Int)(hq:q=(p:Int))(w:World)(h:Row .i32 w a n c l)(hn:n≤4611686018427387904)(hp:p≤4611686018427387904) :
  Calls prog 154 #[.slice a n c,.int .i64 q] w fun e w'=>e = .returned (.int .i64 (bWhole l p:Nat))∧Below w.heap.size w w':=by
 subst hq;exact zl3 a n c l p w h hn hp
theorem zfX(a:Option Addr)(n c:Nat)(l:List Int)(p first:Nat)(w:World)(h:Row .i32 w a n c l)(hn:n≤4611686018427387904)(hp:p≤4611686018427387904)(hf:first≤4611686018427387904) :
  Calls prog 155 #[.slice a n c,.int .i64 (p:Int),.int .i64 (first:Int)] w fun e w'=>e = .returned (.tuple #[.int .i64 ((bPart l p first).1:Nat),.int .i64 ((bPart l p first).2:Nat)])∧Below w.heap.size w w':=by
 go_enter func155,ntmps155
 by_cases e1:first=p
 ·have e1i:((first:Int)==(p:Int))=true:=by simp[e1]
  go_wp2
  go_ret2
  exact⟨by unfold bPart;rw[if_pos e1];rfl,Below.refl _ _⟩
 ·have e1i:((first:Int)==(p:Int))=false:=by simp;omega
  go_wp2_with fail
  refine (zkd a n c l first w h hn hf).mono ?_
  rintro e w1 ⟨rfl,b1⟩
  by_cases e2:digs l first=first
  ·have e2i:((digs l first:Int)==(first:Int))=true:=by simp[e2]
   go_wp2
   go_ret2
   exact⟨by unfold bPart;rw[if_neg e1,if_pos e2,e2];rfl,b1⟩
  ·have e2i:((digs l first:Int)==(first:Int))=false:=by simp;omega
   go_wp2
   go_ret2
   exact⟨by unfold bPart;rw[if_neg e1,if_neg e2];rfl,b1⟩
theorem zfi(a:Option Addr)(n c:Nat)(l:List Int)(p:Nat)(w:World)(h:Row .i32 w a n c l)(hn:n≤4611686018427387900)(hp:p≤n) :
  Calls prog 139 #[.slice a n c,.int .i64 (p:Int)] w fun e w'=>e = .returned (.tuple #[.int .i64 ((pfx l p).1:Nat),.int .i64 ((pfx l p).2.1:Nat),.int .i64 (pfx l p).2.2])∧Below w.heap.size w w':=by
 go_enter func139,ntmps139
 have h0:¬(p:Int)<0:=by omega
 have h1:¬(n:Int)<(p:Int):=by omega
 go_wp2_with fail
 refine (is_i a n c l p 45 w h (by omega) (by omega)).mono ?_
 rintro e w1 ⟨rfl,b1⟩
 cases e1:isAt l p 45
 ·have hF:=Hi (show pfxFirst l p=p from by unfold pfxFirst;rw[e1];rfl)
  clear e1;have HL:=Hi h.len;have hF1:=zgj (l:=l) (p:=p) (by rw[h.len];omega)
  rw[h.len] at hF1
  go_wp2_with fail
  refine (zgk a n c l (p) _ (by omega) w1 (h.below b1) (by omega) (by omega)).mono ?_
  rintro e w2 ⟨rfl,b2⟩;have b2:=b1.trans (b2.mono b1.size)
  by_cases e2:bWhole l (p)=p
  ·have e2i:((bWhole l (p):Int)==(p:Int))=true:=by simp;omega
   have HE2:=Hi e2;clear e2
   go_wp2
   go_ret3
   exact⟨by unfold pfx;rw[uh hF,if_pos (uh HE2)];rfl,b2⟩
  ·have e2i:((bWhole l (p):Int)==(p:Int))=false:=by simp;omega
   have HP:=Hi (show pfx l p=((pfxR l (bWhole l (p))).1,(pfxR l (bWhole l (p))).2,if (pfxR l (bWhole l (p))).1 > bWhole l (p) then 2 else 1) from by unfold pfx;rw[uh hF,if_neg e2])
   clear e2
   generalize bWhole l (p)=E at *
   have hq1:=zfZ (l:=l) (p:=E) (by rw[uh HL];exact hF1)
   have hq2:=zhZ (l:=l) (p:=E) (f:=bPoint l E) (by rw[uh HL];exact hF1) hq1
   rw[uh HL] at hq1 hq2
   go_wp2_with fail
   refine (zh5 a n c l E w2 (h.below b2) (by omega) (by omega)).mono ?_
   rintro e w3 ⟨rfl,b3⟩;have b3:=b2.trans (b3.mono b2.size)
   go_wp2_with fail
   refine (zfX a n c l E (bPoint l E) w3 (h.below b3) (by omega) (by omega) (by omega)).mono ?_
   rintro e w4 ⟨rfl,b4⟩;have b4:=b3.trans (b4.mono b3.size);have HR:=Hi (show pfxR l E=if (bPart l E (bPoint l E)).1=(bPart l E (bPoint l E)).2 then bPart l (bPart l E (bPoint l E)).1 (bMark l (bPart l E (bPoint l E)).1) else bPart l E (bPoint l E) from rfl)
   clear hq1
   generalize bPart l E (bPoint l E)=R at *
   obtain⟨R1,R2⟩:=R;simp only at hq2
   by_cases e3:R1=R2
   ·have e3i:((R1:Int)==(R2:Int))=true:=by simp;omega
    have HR2:=Hi (show pfxR l E=bPart l R1 (bMark l R1) from by rw[uh HR];exact if_pos e3)
    clear HR;clear e3i;subst e3;have e3i:((R1:Int)==(R1:Int))=true:=by simp
    have hm1:=zhI (l:=l) (p:=R1) (by rw[uh HL];exact hq2.1)
    rw[uh HL] at hm1
    go_wp2_with fail
    refine (zko a n c l R1 w4 (h.below b4) (by omega) (by omega)).mono ?_
    rintro e w5 ⟨rfl,b5⟩;have b5:=b4.trans (b5.mono b4.size)
    go_wp2_with fail
    refine (zfX a n c l R1 (bMark l R1) w5 (h.below b5) (by omega) (by omega) (by omega)).mono ?_
    rintro e w6 ⟨rfl,b6⟩;have b6:=b5.trans (b6.mono b5.size);clear hm1 e3i;rw[uh HR2] at HP
    generalize bPart l R1 (bMark l R1)=S at *
    obtain⟨S1,S2⟩:=S
    by_cases e4:E<S1
    ·have HQ:=Hi (show pfx l p=(S1,S2,2) from by rw[uh HP];simp[e4])
     have e4i:(E:Int)<(S1:Int):=by omega
     clear HP HR2
     go_wp2
     go_ret3
     exact⟨by rw[uh HQ];rfl,b6⟩
    ·have HQ:=Hi (show pfx l p=(S1,S2,1) from by rw[uh HP];simp[e4])
     have e4i:¬(E:Int)<(S1:Int):=by omega
     clear HP HR2
     go_wp2
     go_ret3
     exact⟨by rw[uh HQ];rfl,b6⟩
   ·have e3i:((R1:Int)==(R2:Int))=false:=by simp;omega
    have HR2:=Hi (show pfxR l E=(R1,R2) from by rw[uh HR];exact if_neg e3)
    clear HR e3;rw[uh HR2] at HP
    by_cases e4:E<R1
    ·have HQ:=Hi (show pfx l p=(R1,R2,2) from by rw[uh HP];simp[e4])
     have e4i:(E:Int)<(R1:Int):=by omega
     clear HP HR2
     go_wp2
     go_ret3
     exact⟨by rw[uh HQ];rfl,b4⟩
    ·have HQ:=Hi (show pfx l p=(R1,R2,1) from by rw[uh HP];simp[e4])
     have e4i:¬(E:Int)<(R1:Int):=by omega
     clear HP HR2
     go_wp2
     go_ret3
     exact⟨by rw[uh HQ];rfl,b4⟩
 ·have hF:=Hi (show pfxFirst l p=p+1 from by unfold pfxFirst;rw[e1];rfl)
  have hpl:=zbJ e1;rw[h.len] at hpl;clear e1;have HL:=Hi h.len;have hF1:=zgj (l:=l) (p:=p+1) (by rw[h.len];omega)
  rw[h.len] at hF1
  go_wp2_with fail
  refine (zgk a n c l (p+1) _ (by omega) w1 (h.below b1) (by omega) (by omega)).mono ?_
  rintro e w2 ⟨rfl,b2⟩;have b2:=b1.trans (b2.mono b1.size)
  by_cases e2:bWhole l (p+1)=p+1
  ·have e2i:((bWhole l (p+1):Int)==((p:Int)+1))=true:=by simp;omega
   have HE2:=Hi e2;clear e2
   go_wp2
   go_ret3
   exact⟨by unfold pfx;rw[uh hF,if_pos (uh HE2)];rfl,b2⟩
  ·have e2i:((bWhole l (p+1):Int)==((p:Int)+1))=false:=by simp;omega
   have HP:=Hi (show pfx l p=((pfxR l (bWhole l (p+1))).1,(pfxR l (bWhole l (p+1))).2,if (pfxR l (bWhole l (p+1))).1 > bWhole l (p+1) then 2 else 1) from by unfold pfx;rw[uh hF,if_neg e2])
   clear e2
   generalize bWhole l (p+1)=E at *
   have hq1:=zfZ (l:=l) (p:=E) (by rw[uh HL];exact hF1)
   have hq2:=zhZ (l:=l) (p:=E) (f:=bPoint l E) (by rw[uh HL];exact hF1) hq1
   rw[uh HL] at hq1 hq2
   go_wp2_with fail
   refine (zh5 a n c l E w2 (h.below b2) (by omega) (by omega)).mono ?_
   rintro e w3 ⟨rfl,b3⟩;have b3:=b2.trans (b3.mono b2.size)
   go_wp2_with fail
   refine (zfX a n c l E (bPoint l E) w3 (h.below b3) (by omega) (by omega) (by omega)).mono ?_
   rintro e w4 ⟨rfl,b4⟩;have b4:=b3.trans (b4.mono b3.size);have HR:=Hi (show pfxR l E=if (bPart l E (bPoint l E)).1=(bPart l E (bPoint l E)).2 then bPart l (bPart l E (bPoint l E)).1 (bMark l (bPart l E (bPoint l E)).1) else bPart l E (bPoint l E) from rfl)
   clear hq1
   generalize bPart l E (bPoint l E)=R at *
   obtain⟨R1,R2⟩:=R;simp only at hq2
   by_cases e3:R1=R2
   ·have e3i:((R1:Int)==(R2:Int))=true:=by simp;omega
    have HR2:=Hi (show pfxR l E=bPart l R1 (bMark l R1) from by rw[uh HR];exact if_pos e3)
    clear HR;clear e3i;subst e3;have e3i:((R1:Int)==(R1:Int))=true:=by simp
    have hm1:=zhI (l:=l) (p:=R1) (by rw[uh HL];exact hq2.1)
    rw[uh HL] at hm1
    go_wp2_with fail
    refine (zko a n c l R1 w4 (h.below b4) (by omega) (by omega)).mono ?_
    rintro e w5 ⟨rfl,b5⟩;have b5:=b4.trans (b5.mono b4.size)
    go_wp2_with fail
    refine (zfX a n c l R1 (bMark l R1) w5 (h.below b5) (by omega) (by omega) (by omega)).mono ?_
    rintro e w6 ⟨rfl,b6⟩;have b6:=b5.trans (b6.mono b5.size);clear hm1 e3i;rw[uh HR2] at HP
    generalize bPart l R1 (bMark l R1)=S at *
    obtain⟨S1,S2⟩:=S
    by_cases e4:E<S1
    ·have HQ:=Hi (show pfx l p=(S1,S2,2) from by rw[uh HP];simp[e4])
     have e4i:(E:Int)<(S1:Int):=by omega
     clear HP HR2
     go_wp2
     go_ret3
     exact⟨by rw[uh HQ];rfl,b6⟩
    ·have HQ:=Hi (show pfx l p=(S1,S2,1) from by rw[uh HP];simp[e4])
     have e4i:¬(E:Int)<(S1:Int):=by omega
     clear HP HR2
     go_wp2
     go_ret3
     exact⟨by rw[uh HQ];rfl,b6⟩
   ·have e3i:((R1:Int)==(R2:Int))=false:=by simp;omega
    have HR2:=Hi (show pfxR l E=(R1,R2) from by rw[uh HR];exact if_neg e3)
    clear HR e3;rw[uh HR2] at HP
    by_cases e4:E<R1
    ·have HQ:=Hi (show pfx l p=(R1,R2,2) from by rw[uh HP];simp[e4])
     have e4i:(E:Int)<(R1:Int):=by omega
     clear HP HR2
     go_wp2
     go_ret3
     exact⟨by rw[uh HQ];rfl,b4⟩
    ·have HQ:=Hi (show pfx l p=(R1,R2,1) from by rw[uh HP];simp[e4])
     have e4i:¬(E:Int)<(R1:Int):=by omega
     clear HP HR2
     go_wp2
     go_ret3
     exact⟨by rw[uh HQ];rfl,b4⟩
end mem
namespace ints
def inB(c:Int)(s:ByteArray):Bool:=s.data.toList.any fun b=>decide ((b.toNat:Int)=c)
theorem zk4{c:Int}{s:ByteArray}{k:Nat}(h:k<s.size)(e:(s[k].toNat:Int)=c):inB c s=true:=by
 unfold inB;rw[List.any_eq_true];exact⟨s[k],by simp[ByteArray.getElem_eq_getElem_data],by simpa using e⟩
theorem zmI{c:Int}{s:ByteArray}(h:∀ k (hk:k<s.size),¬(s[k].toNat:Int)=c):inB c s=false:=by
 unfold inB;rw[List.any_eq_false];intro b hb;obtain⟨k,hk,rfl⟩:=List.mem_iff_getElem.1 hb;have:=h k (by simpa using hk)
 simpa[ByteArray.getElem_eq_getElem_data] using this
theorem zaB(b:UInt8):wrap32 (b.toNat:Int)=(b.toNat:Int):=by
 have:=b.toNat_lt;unfold wrap32;omega
theorem zmJ(c:Int)(s:ByteArray)(w:World)(hs:s.size≤maxLen) :
  Calls prog 125 #[.int .i32 c,.string s] w fun e w'=>e = .returned (.bool (inB c s))∧w'=w:=by
 unfold maxLen at hs
 go_enter func125,ntmps125
 go_wp2
 go_loop [5] (fun i=>∃ k:Nat,k≤s.size∧i = .int .i64 k∧∀ j (hj:j<s.size),j<k → ¬(s[j].toNat:Int)=c) (fun i=>s.size-(intOf i).toNat)
 case atStart=>exact⟨0,Nat.zero_le _,rfl,fun j _ h=>by omega⟩
 case round =>
  obtain⟨k,hk,rfl,hno⟩:=hrel;have Hno:=Hi hno;clear hno
  by_cases hlt:k<s.size
  ·by_cases he:(s[k].toNat:Int)=c
   ·have hy:=Hi (zk4 hlt he)
    have hb:(wrap32 (s[k].toNat:Int)==c)=true:=by rw[zaB];simpa using he
    clear he
    go_wp2
    go_ret
    rw[uh hy];exact⟨rfl,rfl⟩
   ·have hb:(wrap32 (s[k].toNat:Int)==c)=false:=by rw[zaB];simpa using he
    have he':=Hi he;clear he
    go_wp2
    go_round
    case rel => 
     refine⟨k+1,by omega,by go_num,fun j hj hjk=>?_⟩
     by_cases hjk':j<k
     ·exact uh Hno j hj hjk'
     ·obtain rfl:j=k:=by omega
      exact uh he'
    case measure=>simp[intOf];omega
  ·have hy:=Hi (zmI (c:=c) (s:=s) (fun j hj=>uh Hno j hj (by omega)))
   go_wp2
   go_ret
   rw[uh hy];exact⟨rfl,rfl⟩
theorem zc4(c:Int)(w:World)(h1:48≤c)(h2:c≤57) :
  Calls prog 114 #[.int .i32 c] w fun e w'=>e = .returned (.bool true)∧w'=w:=by
 go_enter func114,ntmps114
 go_wp2_with fail
 refine (zaH _ _ _ _ h1 h2).mono ?_
 rintro e w' ⟨rfl,rfl⟩
 go_wp2
 go_ret
 exact⟨rfl,rfl⟩
theorem zb6(c:Int)(w:World)(h:¬(48≤c∧c≤57)) :
  Calls prog 114 #[.int .i32 c] w fun e w'=>e = .returned (.bool false)∧w'=w:=by
 go_enter func114,ntmps114
 go_wp2_with fail
 refine (zaw _ _ _ _ h).mono ?_
 rintro e w' ⟨rfl,rfl⟩
 go_wp2
 go_ret
 exact⟨rfl,rfl⟩
def nsP(c:Int):Prop:=(65≤c∧c≤90)∨(97≤c∧c≤122)∨c=95
theorem zku(c:Int)(w:World)(h:nsP c) :
  Calls prog 112 #[.int .i32 c] w fun e w'=>e = .returned (.bool true)∧w'=w:=by
 rcases h with ⟨h1,h2⟩ | ⟨h1,h2⟩ | h
 ·go_enter func112,ntmps112
  go_wp2_with fail
  refine (zaH _ _ _ _ h1 h2).mono ?_
  rintro e w' ⟨rfl,rfl⟩
  go_wp2
  go_ret
  exact⟨rfl,rfl⟩
 ·go_enter func112,ntmps112
  go_wp2_with fail
  refine (zaw _ _ _ _ (by omega)).mono ?_
  rintro e w' ⟨rfl,rfl⟩
  go_wp2_with fail
  refine (zaH _ _ _ _ h1 h2).mono ?_
  rintro e w' ⟨rfl,rfl⟩
  go_wp2
  go_ret
  exact⟨rfl,rfl⟩
 ·have h0:¬(65≤c∧c≤90):=by omega
  have h1:¬(97≤c∧c≤122):=by omega
  have hb:(c==95)=true:=by simpa using h
  clear h
  go_enter func112,ntmps112
  go_wp2_with fail
  refine (zaw _ _ _ _ h0).mono ?_
  rintro e w' ⟨rfl,rfl⟩
  go_wp2_with fail
  refine (zaw _ _ _ _ h1).mono ?_
  rintro e w' ⟨rfl,rfl⟩
  go_wp2
  go_ret
  exact⟨rfl,rfl⟩
theorem zlo(c:Int)(w:World)(h:¬nsP c) :
  Calls prog 112 #[.int .i32 c] w fun e w'=>e = .returned (.bool false)∧w'=w:=by
 unfold nsP at h;have h0:¬(65≤c∧c≤90):=by omega
 have h1:¬(97≤c∧c≤122):=by omega
 have hb:(c==95)=false:=by simp;omega
 clear h
 go_enter func112,ntmps112
 go_wp2_with fail
 refine (zaw _ _ _ _ h0).mono ?_
 rintro e w' ⟨rfl,rfl⟩
 go_wp2_with fail
 refine (zaw _ _ _ _ h1).mono ?_
 rintro e w' ⟨rfl,rfl⟩
 go_wp2
 go_ret
 exact⟨rfl,rfl⟩
def nrP(c:Int):Prop:=nsP c∨(48≤c∧c≤57)
theorem zmO(c:Int)(w:World)(h:nrP c) :
  Calls prog 138 #[.int .i32 c] w fun e w'=>e = .returned (.bool true)∧w'=w:=by
 by_cases h1:nsP c
 ·go_enter func138,ntmps138
  go_wp2_with fail
  refine (zku _ _ h1).mono ?_
  rintro e w' ⟨rfl,rfl⟩
  go_wp2
  go_ret
  exact⟨rfl,rfl⟩
 ·have h2:48≤c∧c≤57:=by rcases h with h | h;exact absurd h h1;exact h
  clear h
  go_enter func138,ntmps138
  go_wp2_with fail
  refine (zlo _ _ h1).mono ?_
  rintro e w' ⟨rfl,rfl⟩
  go_wp2_with fail
  refine (zc4 _ _ h2.1 h2.2).mono ?_
  rintro e w' ⟨rfl,rfl⟩
  go_wp2
  go_ret
  exact⟨rfl,rfl⟩
theorem znI(c:Int)(w:World)(h:¬nrP c) :
  Calls prog 138 #[.int .i32 c] w fun e w'=>e = .returned (.bool false)∧w'=w:=by
 have h1:¬nsP c:=fun x=>h (.inl x)
 have h2:¬(48≤c∧c≤57):=fun x=>h (.inr x)
 clear h
 go_enter func138,ntmps138
 go_wp2_with fail
 refine (zlo _ _ h1).mono ?_
 rintro e w' ⟨rfl,rfl⟩
 go_wp2_with fail
 refine (zb6 _ _ h2).mono ?_
 rintro e w' ⟨rfl,rfl⟩
 go_wp2
 go_ret
 exact⟨rfl,rfl⟩
def blP(c:Int):Prop:=c=9∨c=10∨c=13∨c=32∨c=44∨c=65279
theorem zmb(c:Int)(w:World)(h:blP c) :
  Calls prog 109 #[.int .i32 c] w fun e w'=>e = .returned (.bool true)∧w'=w:=by
 rcases h with rfl | rfl | rfl | rfl | rfl | rfl
 all_goals
  go_enter func109,ntmps109
  go_wp2
  go_ret
  exact⟨rfl,rfl⟩
theorem znD(c:Int)(w:World)(h:¬blP c) :
  Calls prog 109 #[.int .i32 c] w fun e w'=>e = .returned (.bool false)∧w'=w:=by
 unfold blP at h;have b0:(c==9)=false:=by simp;omega
 have b1:(c==10)=false:=by simp;omega
 have b2:(c==13)=false:=by simp;omega
 have b3:(c==32)=false:=by simp;omega
 have b4:(c==44)=false:=by simp;omega
 have b5:(c==65279)=false:=by simp;omega
 clear h
 go_enter func109,ntmps109
 go_wp2
 go_ret
 exact⟨rfl,rfl⟩
def soP(c:Int):Prop:=c=9∨c=10∨c=13∨(32≤c∧c≤55295)∨(57344≤c∧c≤65535)
theorem znc(c:Int)(w:World)(h:soP c) :
  Calls prog 110 #[.int .i32 c] w fun e w'=>e = .returned (.bool true)∧w'=w:=by
 rcases h with rfl | rfl | rfl | ⟨h1,h2⟩ | ⟨h1,h2⟩
 ·go_enter func110,ntmps110
  go_wp2
  go_ret
  exact⟨rfl,rfl⟩
 ·go_enter func110,ntmps110
  go_wp2
  go_ret
  exact⟨rfl,rfl⟩
 ·go_enter func110,ntmps110
  go_wp2
  go_ret
  exact⟨rfl,rfl⟩
 ·have b0:(c==9)=false:=by simp;omega
  have b1:(c==10)=false:=by simp;omega
  have b2:(c==13)=false:=by simp;omega
  go_enter func110,ntmps110
  go_wp2_with fail
  refine (zaH _ _ _ _ h1 h2).mono ?_
  rintro e w' ⟨rfl,rfl⟩
  go_wp2
  go_ret
  exact⟨rfl,rfl⟩
 ·have b0:(c==9)=false:=by simp;omega
  have b1:(c==10)=false:=by simp;omega
  have b2:(c==13)=false:=by simp;omega
  have h0:¬(32≤c∧c≤55295):=by omega
  go_enter func110,ntmps110
  go_wp2_with fail
  refine (zaw _ _ _ _ h0).mono ?_
  rintro e w' ⟨rfl,rfl⟩
  go_wp2_with fail
  refine (zaH _ _ _ _ h1 h2).mono ?_
  rintro e w' ⟨rfl,rfl⟩
  go_wp2
  go_ret
  exact⟨rfl,rfl⟩
theorem znO(c:Int)(w:World)(h:¬soP c) :
  Calls prog 110 #[.int .i32 c] w fun e w'=>e = .returned (.bool false)∧w'=w:=by
 unfold soP at h;have b0:(c==9)=false:=by simp;omega
 have b1:(c==10)=false:=by simp;omega
 have b2:(c==13)=false:=by simp;omega
 have h0:¬(32≤c∧c≤55295):=by omega
 have h1:¬(57344≤c∧c≤65535):=by omega
 clear h
 go_enter func110,ntmps110
 go_wp2_with fail
 refine (zaw _ _ _ _ h0).mono ?_
 rintro e w' ⟨rfl,rfl⟩
 go_wp2_with fail
 refine (zaw _ _ _ _ h1).mono ?_
 rintro e w' ⟨rfl,rfl⟩
 go_wp2
 go_ret
 exact⟨rfl,rfl⟩
def hexV(c:Int):Int:=if 48≤c∧c≤57 then c-48 else if 97≤c∧c≤102 then c-97+10 else if 65≤c∧c≤70 then c-65+10 else -1
theorem zdZ(c:Int)(w:World) :
  Calls prog 194 #[.int .i32 c] w fun e w'=>e = .returned (.int .i64 (hexV c))∧w'=w:=by
 by_cases h1:48≤c∧c≤57
 ·have hv:=Hi (show hexV c=c-48 from if_pos h1)
  obtain⟨a1,a2⟩:=h1
  go_enter func194,ntmps194
  go_wp2_with fail
  refine (zc4 _ _ a1 a2).mono ?_
  rintro e w' ⟨rfl,rfl⟩
  go_wp2
  go_ret
  rw[uh hv];exact⟨rfl,rfl⟩
 by_cases h2:97≤c∧c≤102
 ·have hv:=Hi (show hexV c=c-97+10 from by unfold hexV;rw[if_neg h1,if_pos h2])
  obtain⟨a1,a2⟩:=h2
  go_enter func194,ntmps194
  go_wp2_with fail
  refine (zb6 _ _ h1).mono ?_
  rintro e w' ⟨rfl,rfl⟩
  go_wp2_with fail
  refine (zaH _ _ _ _ a1 a2).mono ?_
  rintro e w' ⟨rfl,rfl⟩
  go_wp2
  go_ret
  rw[uh hv];exact⟨rfl,rfl⟩
 by_cases h3:65≤c∧c≤70
 ·have hv:=Hi (show hexV c=c-65+10 from by unfold hexV;rw[if_neg h1,if_neg h2,if_pos h3])
  obtain⟨a1,a2⟩:=h3
  go_enter func194,ntmps194
  go_wp2_with fail
  refine (zb6 _ _ h1).mono ?_
  rintro e w' ⟨rfl,rfl⟩
  go_wp2_with fail
  refine (zaw _ _ _ _ h2).mono ?_
  rintro e w' ⟨rfl,rfl⟩
  go_wp2_with fail
  refine (zaH _ _ _ _ a1 a2).mono ?_
  rintro e w' ⟨rfl,rfl⟩
  go_wp2
  go_ret
  rw[uh hv];exact⟨rfl,rfl⟩
 have hv:=Hi (show hexV c = -1 from by unfold hexV;rw[if_neg h1,if_neg h2,if_neg h3])
 go_enter func194,ntmps194
 go_wp2_with fail
 refine (zb6 _ _ h1).mono ?_
 rintro e w' ⟨rfl,rfl⟩
 go_wp2_with fail
 refine (zaw _ _ _ _ h2).mono ?_
 rintro e w' ⟨rfl,rfl⟩
 go_wp2_with fail
 refine (zaw _ _ _ _ h3).mono ?_
 rintro e w' ⟨rfl,rfl⟩
 go_wp2
 go_ret
 rw[uh hv];exact⟨rfl,rfl⟩
end ints
namespace mem
open ints (Hi uh)
def prB(l:List Int)(k:Nat):Bool:=decide (k+1<l.length) && (l.getD k 0==13) && (l.getD (k+1) 0==10)
def enB(l:List Int)(k:Nat):Bool:=(l.getD k 0==10) || ((l.getD k 0==13) && !prB l k)
theorem zgz(a:Option Addr)(n c:Nat)(w:World) :
  Calls prog 135 #[.slice a n c,.int .i64 (-1)] w fun e w'=>e = .returned (.bool false)∧w'=w:=by
 go_enter func135,ntmps135
 go_wp2
 go_ret
 exact⟨rfl,rfl⟩
theorem zdB(a:Option Addr)(n c:Nat)(l:List Int)(k:Nat)(w:World)(h:Row .i32 w a n c l)(hn:n≤9223372036854775806)(hk:k≤n) :
  Calls prog 135 #[.slice a n c,.int .i64 (k:Int)] w fun e w'=>e = .returned (.bool (prB l k))∧w'=w:=by
 have hl:=h.len
 by_cases h1:k+1<n
 ·rcases h.at_ with h0 | ⟨b,off,rfl,hbw,hcell⟩
  ·omega
  have c1:=hcell k (by omega)
  have c2:=hcell (k+1) h1;have e:prB l k=((l.getD k 0==13) && (l.getD (k+1) 0==10)):=by unfold prB;rw[hl];simp[h1]
  generalize l.getD k 0=x at *
  generalize l.getD (k+1) 0=y at *
  have E:=Hi e;have h1i:(k:Int)+1<(n:Int):=by omega
  clear hcell e hl h
  cases hx:(x==13)
  ·have E2:=Hi (show prB l k=false from by rw[uh E,hx];rfl)
   go_enter func135,ntmps135
   go_wp2
   go_ret
   rw[uh E2];exact⟨rfl,rfl⟩
  ·cases hy:(y==10)
   ·have E2:=Hi (show prB l k=false from by rw[uh E,hx,hy];rfl)
    go_enter func135,ntmps135
    go_wp2
    go_ret
    rw[uh E2];exact⟨rfl,rfl⟩
   ·have E2:=Hi (show prB l k=true from by rw[uh E,hx,hy];rfl)
    go_enter func135,ntmps135
    go_wp2
    go_ret
    rw[uh E2];exact⟨rfl,rfl⟩
 ·have E2:=Hi (show prB l k=false from by unfold prB;rw[hl];simp[h1])
  have h1i:¬(k:Int)+1<(n:Int):=by omega
  clear hl h
  go_enter func135,ntmps135
  go_wp2
  go_ret
  rw[uh E2];exact⟨rfl,rfl⟩
theorem zfH(a:Option Addr)(n c:Nat)(l:List Int)(k:Nat)(w:World)(h:Row .i32 w a n c l)(hn:n≤9223372036854775806)(hk:k<n) :
  Calls prog 107 #[.slice a n c,.int .i64 (k:Int)] w fun e w'=>e = .returned (.bool (enB l k))∧w'=w:=by
 have P:=Hi (zdB a n c l k w h hn (by omega))
 rcases h.at_ with h0 | ⟨b,off,rfl,hbw,hcell⟩
 ·omega
 have c1:=hcell k hk;have E:=Hi (show enB l k=((l.getD k 0==10) || ((l.getD k 0==13) && !prB l k)) from rfl)
 generalize l.getD k 0=x at *
 generalize prB l k=p at *
 have hki:(k:Int)<(n:Int):=by omega
 clear hcell h
 cases hx:(x==10)
 ·cases hy:(x==13)
  ·have E2:=Hi (show enB l k=false from by rw[uh E,hx,hy];rfl)
   go_enter func107,ntmps107
   go_wp2
   go_ret
   rw[uh E2];exact⟨rfl,rfl⟩
  ·have E2:=Hi (show enB l k = !p from by rw[uh E,hx,hy];simp)
   go_enter func107,ntmps107
   go_wp2_with fail
   refine (uh P).mono ?_
   rintro e w' ⟨rfl,rfl⟩
   go_wp2
   go_ret
   rw[uh E2];exact⟨rfl,rfl⟩
 ·have E2:=Hi (show enB l k=true from by rw[uh E,hx];rfl)
  go_enter func107,ntmps107
  go_wp2
  go_ret
  rw[uh E2];exact⟨rfl,rfl⟩
theorem zgm(a:Option Addr)(n c:Nat)(l:List Int)(k:Nat)(x y:Int)(w:World)(h:Row .i32 w a n c l)(hn:n≤9223372036854775806)(hk:k<n)(hx0:0≤x)(hx1:x≤4611686018427387904)(hy0:0≤y)(hy1:y≤4611686018427387904) :
  Calls prog 95 #[.agg #[.int .i64 x,.int .i64 y],.slice a n c,.int .i64 (k:Int)] w fun e w' =>
   e = .returned (.agg #[.int .i64 (if enB l k then x+1 else x),.int .i64 (if enB l k then 1 else y+1)])∧Below w.heap.size w w':=by
 obtain⟨o1,ho1⟩:∃ o,o=Obj.cells #[.int .i64 x,.int .i64 y] 31 (0,0):=⟨_,rfl⟩;obtain⟨o2,ho2⟩:∃ o,o=Obj.cells #[.int .i64 0,.int .i64 0] 31 (0,0):=⟨_,rfl⟩;have hb2:Below w.heap.size w ((w.alloc o1).alloc o2):=((Below.refl _ _).alloc (lr _) o1).alloc (by simp) o2
 have P:=Hi (zfH a n c l k ((w.alloc o1).alloc o2) (h.below hb2) hn hk);rw[ho1,ho2] at P
 cases hp:enB l k
 ·rw[hp] at P
  go_enter func95,ntmps95
  go_wp2_with fail
  refine (uh P).mono ?_
  rintro e w' ⟨rfl,rfl⟩
  go_wp2
  exact bodyPost_ret (v:=.agg #[.int .i64 x,.int .i64 (y+1)]) (by simp[results,Tryz.results95,go_sem]) rfl ⟨rfl,((Below.refl _ _).alloc (lr _) _).alloc (by simp) _⟩
 ·rw[hp] at P
  go_enter func95,ntmps95
  go_wp2_with fail
  refine (uh P).mono ?_
  rintro e w' ⟨rfl,rfl⟩
  go_wp2
  exact bodyPost_ret (v:=.agg #[.int .i64 (x+1),.int .i64 1]) (by simp[results,Tryz.results95,go_sem]) rfl ⟨rfl,((Below.refl _ _).alloc (lr _) _).alloc (by simp) _⟩
def posT(l:List Int):Nat→Int × Int
 | 0=>(1,1)
 | k+1=>(if enB l k then (posT l k).1+1 else (posT l k).1,if enB l k then 1 else (posT l k).2+1)
theorem zlC(l:List Int)(k:Nat):1≤(posT l k).1∧(posT l k).1≤k+1∧1≤(posT l k).2∧(posT l k).2≤k+1:=by
 induction k with
 | zero=>simp[posT]
 | succ k ih=>simp only[posT];split <;> omega
def posCells(ps:List (Int × Int)):List Value:=ps.flatMap fun p=>[.int .i64 p.1,.int .i64 p.2]
def plist(l:List Int)(k:Nat):List (Int × Int):=(List.range k).map (posT l)
theorem zcB(l:List Int)(k:Nat):posCells (plist l (k+1))=posCells (plist l k)++[.int .i64 (posT l k).1,.int .i64 (posT l k).2]:=by
 unfold plist posCells;rw[List.range_succ,List.map_append,List.flatMap_append];simp
theorem infoPos:(prog.info? 31).map (fun i=>(i.zero,i.size,i.bytes))=some (some (.agg #[.int .i64 0,.int .i64 0]),2,16):=by kernel_rfl
theorem zcQ(w:World)(x y:Value)(t:TypeId):∀ j u,[x,y][j]? = some u→(w.alloc (.cells #[x,y] t)).cell? ((⟨w.heap.size,0,none⟩:Addr).add j)=some u:=by
 intro j u hj
 match j,hj with
 | 0,hj=>simp at hj;subst hj;simp[Addr.add]
 | 1,hj=>simp at hj;subst hj;simp[Addr.add]
 | (j+2),hj=>simp at hj
theorem zd9(x y:Int):∀ u∈[Value.int .i64 x,Value.int .i64 y],u.oneCell'=true:=by
 intro u hu;simp at hu;rcases hu with rfl | rfl <;> rfl
def Box(w:World)(B:Nat)(x y:Int):Prop:=w.heap[B]? = some (.cells #[.int .i64 x,.int .i64 y] 31 (0,0))
theorem Box.cells{w:World}{B:Nat}{x y:Int}(h:Box w B x y):w.cell? ⟨B,0,none⟩=some (.int .i64 x)∧w.cell? ⟨B,1,none⟩=some (.int .i64 y)∧w.frozen? ⟨B,0,none⟩=false∧w.frozen? ⟨B,1,none⟩=false:=by
 unfold Box at h;refine⟨?_,?_,?_,?_⟩
 ·simp[World.cell?,h]
 ·simp[World.cell?,h]
 ·simp[World.frozen?,h]
 ·simp[World.frozen?,h]
theorem Box.lt{w:World}{B:Nat}{x y:Int}(h:Box w B x y):B<w.heap.size:=(Array.getElem?_eq_some_iff.1 h).1
theorem Box.below{w w':World}{B:Nat}{x y:Int}(h:Box w B x y)(hb:Below w.heap.size w w'):Box w' B x y:=(hb.block B h.lt).trans h
theorem Box.set{w:World}{B:Nat}{x y:Int}(h:Box w B x y)(x' y':Int):Box ((w.setCell ⟨B,0,none⟩ (.int .i64 x')).setCell ⟨B,1,none⟩ (.int .i64 y')) B x' y':=by
 unfold Box at *;simp[World.setCell,Array.getElem?_modify,h]
theorem zdC(a:Option Addr)(n c:Nat)(l:List Int)(w:World)(h:Row .i32 w a n c l)(hn:n≤1099511627776) :
  Calls prog 74 #[.slice a n c] w fun e w'=>e = .returned (.slice (some ⟨w.heap.size+1,0,none⟩) (n+1) (n+1)) ∧
   w'.ownsRow (w.heap.size+1) 31 2 (.slice (some ⟨w.heap.size+1,0,none⟩) (n+1) (n+1)) (n+1) (posCells (plist l (n+1)))∧Below w.heap.size w w':=by
 obtain⟨i0,hi,hz0,hz1,hz2⟩:=info_parts infoPos;have e0:=Hi (show (w.alloc (.cells #[.int .i64 1,.int .i64 1] 31)).heap.size=w.heap.size+1 from by simp)
 have bx0:=Hi (show Box (w.alloc (.cells #[.int .i64 1,.int .i64 1] 31)) w.heap.size 1 1 from heap_alloc_new w _)
 have hbe0:=Hi (show Below w.heap.size w (w.alloc (.cells #[.int .i64 1,.int .i64 1] 31)) from (Below.refl _ _).alloc (lr _) _)
 go_enter func74,ntmps74
 go_wp2_with (first
  | (refine wpList_make_own _ rfl _ _ 35 rfl (w.heap.size+1) 31 i0 (.agg #[.int .i64 0,.int .i64 0]) 2 underlying35 hi hz0 hz1 .i64 .i64 _ (n+1) rfl rfl (by omega) (by rw[hz2];omega) (by unfold maxLen;omega) (by simp) ?_;intro w1 hown hgrow;rw[uh e0] at hown;have hg1:=belowNone hgrow;have bx1:=(uh bx0).below hg1;obtain⟨k0,k1,k2,k3⟩:=bx1.cells;have hg:=(uh hbe0).trans (hg1.mono (by rw[uh e0];omega));have hsz:=hg1.size;rw[uh e0] at hsz;clear hgrow hg1)
  | (at_builtin;refine wpList_append_fits _ rfl (.tmp 11) (.tmp 13) 35 rfl (w.heap.size+1) 31 i0 2 underlying35 hi hz1 (w.heap.size+1) 0 (n+1) [] rfl (hown.alloc _) ⟨w1.heap.size,0,none⟩ 1 1 [.int .i64 1,.int .i64 1] rfl rfl (zcQ _ _ _ _) (zd9 _ _) (by omega) ?_;intro w2 hown2 hgrow2))
 simp only[Nat.zero_add,List.nil_append] at hown2 ⊢;have hal:Below w1.heap.size w1 (w1.alloc (.cells #[.int .i64 1,.int .i64 1] 31)):=(Below.refl _ _).alloc (lr _) _;have hgr:Below (w.heap.size+1) w1 w2:=(hal.mono hsz).grown hgrow2 (by simp;omega) (fun k hk=>by obtain rfl:=Option.some.inj hk;exact lr _)
 have hb2:Below w.heap.size w w2:=hg.trans (hgr.mono (by omega))
 have bx2:Box w2 w.heap.size 1 1:=(hgr.block _ (by omega)).trans bx1
 have hs2:w.heap.size+1≤w2.heap.size:=Nat.le_trans hsz hgr.size;clear hal hgr hgrow2 hown k0 k1 k2 k3 bx1 hg hsz bx0 hbe0 e0
 go_loopw [4,17] (fun v i wr=>∃ k:Nat,k≤n∧i = .int .i64 k∧v = .slice (some ⟨w.heap.size+1,0,none⟩) (k+1) (n+1) ∧
  wr.ownsRow (w.heap.size+1) 31 2 (.slice (some ⟨w.heap.size+1,0,none⟩) (k+1) (n+1)) (k+1) (posCells (plist l (k+1)))∧Box wr w.heap.size (posT l k).1 (posT l k).2∧Below w.heap.size w wr) (fun _ i _=>n-(intOf i).toNat)
 case atStart=>exact⟨0,Nat.zero_le _,rfl,rfl,hown2,bx2,hb2⟩
 case round =>
  obtain⟨k,hk,rfl,rfl,hown,hbx,hbel⟩:=hrel;clear hown2 bx2 hb2 hs2
  by_cases hlt:k<n
  ·obtain⟨q0,q1,q2,q3⟩:=hbx.cells
   have hbd:=zlC l k;have hstep:=Hi (show posT l (k+1)=(if enB l k then (posT l k).1+1 else (posT l k).1,if enB l k then 1 else (posT l k).2+1) from rfl)
   have P:=Hi (zgm a n c l k (posT l k).1 (posT l k).2 wr (h.below hbel) (by omega) hlt (by omega) (by omega) (by omega) (by omega))
   obtain⟨X,hX⟩:∃ X,X=posT l k:=⟨_,rfl⟩;obtain⟨Y,hY⟩:∃ Y,Y=posT l (k+1):=⟨_,rfl⟩;have hY1:=Hi (show Y.1=(if enB l k then X.1+1 else X.1) from by rw[hY,hX,uh hstep])
   have hY2:=Hi (show Y.2=(if enB l k then 1 else X.2+1) from by rw[hY,hX,uh hstep])
   rw[←hX] at P q0 q1 hbx;rw[←uh hY1,←uh hY2] at P;have HY:=Hi hY;have hkl:(k:Int)<(n:Int):=by omega
   clear hX hY hstep hY1 hY2 hbd
   go_wp2_with fail
   refine (uh P).mono ?_
   rintro e w3 ⟨rfl,hb3⟩;have hbx3:=hbx.below hb3;have hown3:=zah hown hb3;have hbel3:=hbel.trans (hb3.mono hbel.size);obtain⟨p0,p1,p2,p3⟩:=hbx3.cells;obtain⟨W3,hW3⟩:∃ W3,W3=(w3.setCell ⟨w.heap.size,0,none⟩ (.int .i64 Y.1)).setCell ⟨w.heap.size,1,none⟩ (.int .i64 Y.2):=⟨_,rfl⟩;have hsz3:W3.heap.size=w3.heap.size:=by rw[hW3];simp[World.setCell]
   have hownS:W3.ownsRow (w.heap.size+1) 31 2 (.slice (some ⟨w.heap.size+1,0,none⟩) (k+1) (n+1)) (k+1) (posCells (plist l (k+1))):=by
    rw[hW3];exact ownsRow_setCell_below (ownsRow_setCell_below hown3 (by simp) _) (by simp) _
   have hbxS:Box W3 w.heap.size Y.1 Y.2:=by rw[hW3];exact hbx3.set _ _
   have hbelS:Below w.heap.size w W3:=by rw[hW3];exact (hbel3.setCell (lr _) _).setCell (lr _) _
   have hcel:∀ j u,[Value.int .i64 Y.1,Value.int .i64 Y.2][j]? = some u→(W3.alloc (.cells #[.int .i64 Y.1,.int .i64 Y.2] 31)).cell? ((⟨w3.heap.size,0,none⟩:Addr).add j)=some u:=by
    rw[←hsz3];exact zcQ _ _ _ _
   have hownA:=hownS.alloc (.cells #[.int .i64 Y.1,.int .i64 Y.2] 31);have HA:=Hi hownA;have HCel:=Hi hcel;have HbS:=Hi hbelS;have HxS:=Hi hbxS;have Hs3:=Hi hsz3;rw[hW3] at HA HCel;have HW:=Hi hW3;clear P hb3 hown hbx q0 q1 q2 q3 hbel hW3 hownA hownS hcel hbelS hbxS hsz3
   go_wp2_with (at_builtin;refine wpList_append_fits _ rfl (.tmp 24) (.tmp 26) 35 rfl (w.heap.size+1) 31 i0 2 underlying35 hi hz1 (w.heap.size+1) (k+1) (n+1) (posCells (plist l (k+1))) rfl (uh HA) ⟨w3.heap.size,0,none⟩ 1 1 [.int .i64 Y.1,.int .i64 Y.2] rfl rfl (uh HCel) (zd9 _ _) (by omega) ?_;intro w4 hown4 hgrow4)
   go_roundw
   case rel =>
    rw[←uh HW] at hgrow4;have hb4:Below (w.heap.size+1) W3 w4:=((Below.refl _ _).alloc (by rw[uh Hs3];have:=hbx3.lt;omega) _).grown hgrow4 (by simp;rw[uh Hs3];have:=hbx3.lt;omega) (fun k hk=>by obtain rfl:=Option.some.inj hk;exact lr _)
    refine⟨k+1,by omega,by go_num,rfl,?_,?_,(uh HbS).trans (hb4.mono (by omega))⟩
    ·rw[zcB l (k+1),←uh HY];exact hown4
    ·rw[←uh HY];exact (hb4.block _ (by omega)).trans (uh HxS)
   case measure=>simp[intOf];omega
  ·have ek:k=n:=by omega
   subst ek
   go_wp2
   go_ret
   exact⟨rfl,hown,hbel⟩
def bytesZ(s:ByteArray):List Int:=s.data.toList.map fun b=>(b.toNat:Int)
theorem zaQ(s:ByteArray):(bytesZ s).length=s.size:=by unfold bytesZ;rw[List.length_map,Array.length_toList];rfl
theorem zbj(s:ByteArray):Byt (bytesZ s):=by
 intro z hz;obtain⟨b,_,rfl⟩:=List.mem_map.1 hz;have:=b.toNat_lt;omega
theorem zgo(zs:List Int)(h:Byt zs):bytesZ (strOfNums zs)=zs:=by
 unfold bytesZ;rw[strOfNums_data,List.map_map]
 conv=>rhs;rw[←List.map_id zs]
 apply List.map_congr_left
 intro z hz;have:=h z hz;simp;omega
theorem zbR(s:ByteArray)(i:Nat):(bytesZ s).getD i 0=((s.get! i).toNat:Int):=by
 unfold bytesZ;have e:s.get! i=s.data[i]! := rfl;rw[e]
 by_cases h:i<s.data.size
 ·rw[getElem!_pos s.data i h]
  simp[List.getD,Array.getElem?_eq_getElem h]
 ·rw[getElem!_neg s.data i h]
  simp[List.getD,Array.getElem?_eq_none (Nat.le_of_not_lt h)]
  rfl
theorem zbG(l:List Int)(p k:Nat):(l.drop p).getD k 0=l.getD (p+k) 0:=by simp[List.getD]
theorem zlr(s:ByteArray)(p:Nat):oneL ((bytesZ s).drop p)=oneQ (s.size-p) ((s.get! p).toNat:Int) ((s.get! (p+1)).toNat:Int) ((s.get! (p+2)).toNat:Int) ((s.get! (p+3)).toNat:Int):=by
 unfold oneL;rw[zbG,zbG,zbG,zbG,zbR,zbR,zbR,zbR];simp[zaQ]
theorem zjs{n:Nat}{b0:Int}(b1 b2 b3:Int)(h0:128≤b0)(h:b0<192∨248≤b0):oneQ n b0 b1 b2 b3=(0,0):=by
 unfold oneQ;rw[if_neg (by omega),if_neg (by omega),if_neg (by omega),if_neg (by omega)]
theorem zkx{n:Nat}{b0:Int}(b1 b2 b3:Int)(h0:192≤b0)(h1:b0<224):oneQ n b0 b1 b2 b3=if 1<n∧b1/64=2∧128≤b0%32 * 64+b1%64 then (b0%32 * 64+b1%64,2) else (0,0):=by
 unfold oneQ;have e1:b0/32=6:=by omega
 have e2:¬b0/16=14:=by omega
 have e3:¬b0/8=30:=by omega
 rw[if_neg (by omega)]
 simp only[e1,e2,e3,true_and,false_and,and_false,if_false]
theorem zky{n:Nat}{b0:Int}(b1 b2 b3:Int)(h0:224≤b0)(h1:b0<240):oneQ n b0 b1 b2 b3=if 2<n∧b1/64=2∧b2/64=2∧2048≤b0%16 * 4096+b1%64 * 64+b2%64∧(b0%16 * 4096+b1%64 * 64+b2%64≤55295∨57344≤b0%16 * 4096+b1%64 * 64+b2%64) then (b0%16 * 4096+b1%64 * 64+b2%64,3) else (0,0):=by
 unfold oneQ;have e1:¬b0/32=6:=by omega
 have e2:b0/16=14:=by omega
 have e3:¬b0/8=30:=by omega
 rw[if_neg (by omega)]
 simp only[e1,e2,e3,true_and,false_and,and_false,if_false]
theorem zkz{n:Nat}{b0:Int}(b1 b2 b3:Int)(h0:240≤b0)(h1:b0<248):oneQ n b0 b1 b2 b3=if 3<n∧b1/64=2∧b2/64=2∧b3/64=2∧65536≤b0%8 * 262144+b1%64 * 4096+b2%64 * 64+b3%64∧b0%8 * 262144+b1%64 * 4096+b2%64 * 64+b3%64≤1114111 then (b0%8 * 262144+b1%64 * 4096+b2%64 * 64+b3%64,4) else (0,0):=by
 unfold oneQ;have e1:¬b0/32=6:=by omega
 have e2:¬b0/16=14:=by omega
 have e3:b0/8=30:=by omega
 rw[if_neg (by omega)]
 simp only[e1,e2,e3,true_and,false_and,and_false,if_false]
def decQ(n b0 b1 b2 b3:Nat):Nat × Nat:=
 if b0<128 then (b0,1)
 else if (b0/32==6 && (decide (1<n) && b1/64==2))=true then (if b0%32 * 64+b1%64 ≥ 128 then (b0%32 * 64+b1%64,2) else (65533,1))
 else if (b0/16==14 && (decide (1<n) && b1/64==2) && (decide (2<n) && b2/64==2))=true then
  (if (decide (b0%16 * 4096+b1%64 * 64+b2%64 ≥ 2048) && Utf8.valid ((b0%16 * 4096+b1%64 * 64+b2%64:Nat):Int))=true then (b0%16 * 4096+b1%64 * 64+b2%64,3) else (65533,1))
 else if (b0/8==30 && (decide (1<n) && b1/64==2) && (decide (2<n) && b2/64==2) && (decide (3<n) && b3/64==2))=true then
  (if (decide (b0%8 * 262144+b1%64 * 4096+b2%64 * 64+b3%64 ≥ 65536) && Utf8.valid ((b0%8 * 262144+b1%64 * 4096+b2%64 * 64+b3%64:Nat):Int))=true then (b0%8 * 262144+b1%64 * 4096+b2%64 * 64+b3%64,4) else (65533,1))
 else (65533,1)
theorem zdS(p k n:Nat):decide (p+k<n)=decide (k<n-p):=by
 rw[decide_eq_decide];omega
theorem ziX(s:ByteArray)(p:Nat):Utf8.decode s p=decQ (s.size-p) (s.get! p).toNat (s.get! (p+1)).toNat (s.get! (p+2)).toNat (s.get! (p+3)).toNat:=by
 unfold Utf8.decode decQ;simp only[Nat.add_zero,zdS,Utf8.runeError]
theorem zcl(c:Nat):Utf8.valid (c:Int)=true ↔ (c≤55295∨57344≤c∧c≤1114111):=by
 simp[Utf8.valid];omega
theorem ziV{n b0:Nat}(b1 b2 b3:Nat)(h0:128≤b0)(h:b0<192∨248≤b0):decQ n b0 b1 b2 b3=(65533,1):=by
 unfold decQ;have e1:(b0/32==6)=false:=by simp;omega
 have e2:(b0/16==14)=false:=by simp;omega
 have e3:(b0/8==30)=false:=by simp;omega
 rw[if_neg (by omega)]
 simp[e1,e2,e3]
theorem zmp{n b0:Nat}(b1 b2 b3:Nat)(h0:192≤b0)(h1:b0<224):decQ n b0 b1 b2 b3=if (1<n∧b1/64=2)∧128≤b0%32 * 64+b1%64 then (b0%32 * 64+b1%64,2) else (65533,1):=by
 unfold decQ;have e1:(b0/32==6)=true:=by simp;omega
 have e2:(b0/16==14)=false:=by simp;omega
 have e3:(b0/8==30)=false:=by simp;omega
 rw[if_neg (by omega)]
 simp only[e1,e2,e3,Bool.true_and,Bool.false_and,Bool.and_eq_true,decide_eq_true_eq,beq_iff_eq,Bool.false_eq_true,if_false,ge_iff_le]
 by_cases a:1<n∧b1/64=2
 ·by_cases b:128≤b0%32 * 64+b1%64
  ·rw[if_pos a,if_pos b,if_pos ⟨a,b⟩]
  ·rw[if_pos a,if_neg b,if_neg (fun h=>b h.2)]
 ·rw[if_neg a,if_neg (fun h=>a h.1)]
theorem zmq{n b0:Nat}(b1 b2 b3:Nat)(h0:224≤b0)(h1:b0<240):decQ n b0 b1 b2 b3=if ((1<n∧b1/64=2)∧2<n∧b2/64=2)∧2048≤b0%16 * 4096+b1%64 * 64+b2%64∧(b0%16 * 4096+b1%64 * 64+b2%64≤55295∨57344≤b0%16 * 4096+b1%64 * 64+b2%64∧b0%16 * 4096+b1%64 * 64+b2%64≤1114111) then (b0%16 * 4096+b1%64 * 64+b2%64,3) else (65533,1):=by
 unfold decQ;have e1:(b0/32==6)=false:=by simp;omega
 have e2:(b0/16==14)=true:=by simp;omega
 have e3:(b0/8==30)=false:=by simp;omega
 rw[if_neg (by omega)]
 simp only[e1,e2,e3,Bool.true_and,Bool.false_and,Bool.and_eq_true,decide_eq_true_eq,beq_iff_eq,Bool.false_eq_true,if_false,ge_iff_le,zcl]
 generalize b0%16 * 4096+b1%64 * 64+b2%64=C
 by_cases a:(1<n∧b1/64=2)∧2<n∧b2/64=2
 ·by_cases b:2048≤C∧(C≤55295∨57344≤C∧C≤1114111)
  ·rw[if_pos a,if_pos b,if_pos ⟨a,b⟩]
  ·rw[if_pos a,if_neg b,if_neg (fun h=>b h.2)]
 ·rw[if_neg a,if_neg (fun h=>a h.1)]
theorem zmr{n b0:Nat}(b1 b2 b3:Nat)(h0:240≤b0)(h1:b0<248):decQ n b0 b1 b2 b3=if (((1<n∧b1/64=2)∧2<n∧b2/64=2)∧3<n∧b3/64=2)∧65536≤b0%8 * 262144+b1%64 * 4096+b2%64 * 64+b3%64∧(b0%8 * 262144+b1%64 * 4096+b2%64 * 64+b3%64≤55295∨57344≤b0%8 * 262144+b1%64 * 4096+b2%64 * 64+b3%64∧b0%8 * 262144+b1%64 * 4096+b2%64 * 64+b3%64≤1114111) then (b0%8 * 262144+b1%64 * 4096+b2%64 * 64+b3%64,4) else (65533,1):=by
 unfold decQ;have e1:(b0/32==6)=false:=by simp;omega
 have e2:(b0/16==14)=false:=by simp;omega
 have e3:(b0/8==30)=true:=by simp;omega
 rw[if_neg (by omega)]
 simp only[e1,e2,e3,Bool.true_and,Bool.false_and,Bool.and_eq_true,decide_eq_true_eq,beq_iff_eq,Bool.false_eq_true,if_false,ge_iff_le,zcl]
 generalize b0%8 * 262144+b1%64 * 4096+b2%64 * 64+b3%64=C
 by_cases a:((1<n∧b1/64=2)∧2<n∧b2/64=2)∧3<n∧b3/64=2
 ·by_cases b:65536≤C∧(C≤55295∨57344≤C∧C≤1114111)
  ·rw[if_pos a,if_pos b,if_pos ⟨a,b⟩]
  ·rw[if_pos a,if_neg b,if_neg (fun h=>b h.2)]
 ·rw[if_neg a,if_neg (fun h=>a h.1)]
theorem ziW(n b0 b1 b2 b3:Nat)(hn:0<n)(l0:b0<256):decQ n b0 b1 b2 b3=if (oneQ n b0 b1 b2 b3).2=0 then (65533,1) else ((oneQ n b0 b1 b2 b3).1.toNat,(oneQ n b0 b1 b2 b3).2):=by
 by_cases h1:b0<128
 ·have e:oneQ n b0 b1 b2 b3=((b0:Int),1):=by unfold oneQ;rw[if_pos (by omega)]
  rw[e];unfold decQ;rw[if_pos h1];simp
 by_cases h2:b0<192∨248≤b0
 ·rw[ziV b1 b2 b3 (by omega) h2,zjs (b0:=(b0:Int)) _ _ _ (by omega) (by omega)]
  simp
 by_cases h3:b0<224
 ·rw[zmp b1 b2 b3 (by omega) h3]
  by_cases c:(1<n∧b1/64=2)∧128≤b0%32 * 64+b1%64
  ·have e:oneQ n b0 b1 b2 b3=((b0:Int)%32 * 64+(b1:Int)%64,2):=by rw[zkx (b0:=(b0:Int)) _ _ _ (by omega) (by omega),if_pos (by omega)]
   rw[if_pos c,e];simp;omega
  ·have e:oneQ n b0 b1 b2 b3=(0,0):=by rw[zkx (b0:=(b0:Int)) _ _ _ (by omega) (by omega),if_neg (by omega)]
   rw[if_neg c,e];simp
 by_cases h4:b0<240
 ·rw[zmq b1 b2 b3 (by omega) h4]
  by_cases c:((1<n∧b1/64=2)∧2<n∧b2/64=2)∧2048≤b0%16 * 4096+b1%64 * 64+b2%64∧(b0%16 * 4096+b1%64 * 64+b2%64≤55295∨57344≤b0%16 * 4096+b1%64 * 64+b2%64∧b0%16 * 4096+b1%64 * 64+b2%64≤1114111)
  ·have e:oneQ n b0 b1 b2 b3=((b0:Int)%16 * 4096+(b1:Int)%64 * 64+(b2:Int)%64,3):=by rw[zky (b0:=(b0:Int)) _ _ _ (by omega) (by omega),if_pos (by omega)]
   rw[if_pos c,e];simp;omega
  ·have e:oneQ n b0 b1 b2 b3=(0,0):=by rw[zky (b0:=(b0:Int)) _ _ _ (by omega) (by omega),if_neg (by omega)]
   rw[if_neg c,e];simp
 ·rw[zmr b1 b2 b3 (by omega) (by omega)]
  by_cases c:(((1<n∧b1/64=2)∧2<n∧b2/64=2)∧3<n∧b3/64=2)∧65536≤b0%8 * 262144+b1%64 * 4096+b2%64 * 64+b3%64∧(b0%8 * 262144+b1%64 * 4096+b2%64 * 64+b3%64≤55295∨57344≤b0%8 * 262144+b1%64 * 4096+b2%64 * 64+b3%64∧b0%8 * 262144+b1%64 * 4096+b2%64 * 64+b3%64≤1114111)
  ·have e:oneQ n b0 b1 b2 b3=((b0:Int)%8 * 262144+(b1:Int)%64 * 4096+(b2:Int)%64 * 64+(b3:Int)%64,4):=by rw[zkz (b0:=(b0:Int)) _ _ _ (by omega) (by omega),if_pos (by omega)]
   rw[if_pos c,e];simp;omega
  ·have e:oneQ n b0 b1 b2 b3=(0,0):=by rw[zkz (b0:=(b0:Int)) _ _ _ (by omega) (by omega),if_neg (by omega)]
   rw[if_neg c,e];simp
theorem zdw(s:ByteArray)(p:Nat)(h:p<s.size) :
  Utf8.decode s p=if (oneL ((bytesZ s).drop p)).2=0 then (65533,1) else ((oneL ((bytesZ s).drop p)).1.toNat,(oneL ((bytesZ s).drop p)).2):=by
 rw[zlr,ziX];exact ziW _ _ _ _ _ (by omega) (s.get! p).toNat_lt
end mem
end Go.Proofs.YtepmbmbnlmbhhaaGreat
