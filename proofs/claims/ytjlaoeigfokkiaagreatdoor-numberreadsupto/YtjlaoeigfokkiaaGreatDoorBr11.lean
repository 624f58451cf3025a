import Derived.Test.YtjlaoeigfokkiaaGreatDoorRows
namespace Go.Proofs.YtjlaoeigfokkiaaGreatDoor.mem
set_option linter.unusedVariables false
def isAt (l:List Int) (p:Nat) (c:Int):Bool:=decide (p < l.length) && (l.getD p 0 == c)
def digB (c:Int):Bool:=decide (48 ≤ c) && decide (c ≤ 57)
def digAt (l:List Int) (p:Nat):Bool:=decide (p < l.length) && digB (l.getD p 0)
def digsF (l:List Int):Nat → Nat → Nat
 | 0,p => p
 | f + 1,p => if digAt l p then digsF l f (p + 1) else p
def digs (l:List Int) (p:Nat):Nat:=digsF l (l.length - p) p
theorem digAt_lt {l:List Int} {p:Nat} (h:digAt l p = true):p < l.length:=by
 unfold digAt at h
 simp only [Bool.and_eq_true,decide_eq_true_eq] at h
 exact h.1
theorem isAt_lt {l:List Int} {p:Nat} {c:Int} (h:isAt l p c = true):p < l.length:=by
 unfold isAt at h
 simp only [Bool.and_eq_true,decide_eq_true_eq] at h
 exact h.1
theorem digs_yes {l:List Int} {p:Nat} (h:digAt l p = true):digs l p = digs l (p + 1):=by
 have hl:=digAt_lt h
 unfold digs
 rw [show l.length - p = (l.length - (p + 1)) + 1 by omega]
 simp only [digsF,h,if_true]
theorem digs_no {l:List Int} {p:Nat} (h:digAt l p = false):digs l p = p:=by
 unfold digs
 cases l.length - p with
 | zero => rfl
 | succ f => simp only [digsF,h];rfl
theorem digsF_le (l:List Int) (f p:Nat):p ≤ digsF l f p ∧ digsF l f p ≤ p + f:=by
 induction f generalizing p with
 | zero => simp [digsF]
 | succ f ih =>
  simp only [digsF]
  split
  ·have:=ih (p + 1);omega
  ·omega
theorem digs_le (l:List Int) (p:Nat):p ≤ digs l p ∧ (p ≤ l.length → digs l p ≤ l.length):=by
 have:=digsF_le l (l.length - p) p
 unfold digs
 omega
theorem digs_pos {l:List Int} {p:Nat} (h:digAt l p = true):p + 1 ≤ digs l p:=by
 rw [digs_yes h];exact (digs_le l (p + 1)).1
theorem digs_end {l:List Int} {p:Nat}:digAt l (digs l p) = false:=by
 unfold digs
 generalize hf:l.length - p = f
 induction f generalizing p with
 | zero =>
  unfold digsF digAt
  have:¬ p < l.length:=by omega
  simp [this]
 | succ f ih =>
  simp only [digsF]
  cases h:digAt l p
  ·simpa using h
  ·simpa using ih (p:=p + 1) (by omega)
def bWhole (l:List Int) (p:Nat):Nat:=if isAt l p 48 then p + 1 else digs l p
def bPart (l:List Int) (p first:Nat):Nat × Nat:=if first = p then (p,p) else if digs l first = first then (p,digs l first) else (digs l first,digs l first)
def bPoint (l:List Int) (p:Nat):Nat:=if isAt l p 46 then p + 1 else p
def bMark (l:List Int) (p:Nat):Nat:=if isAt l p 101 = false ∧ isAt l p 69 = false then p else if isAt l (p + 1) 43 = true ∨ isAt l (p + 1) 45 = true then p + 2 else p + 1
def pfxFirst (l:List Int) (p:Nat):Nat:=if isAt l p 45 then p + 1 else p
def pfxR (l:List Int) (e:Nat):Nat × Nat:=
 if (bPart l e (bPoint l e)).1 = (bPart l e (bPoint l e)).2 then bPart l (bPart l e (bPoint l e)).1 (bMark l (bPart l e (bPoint l e)).1) else bPart l e (bPoint l e)
def pfx (l:List Int) (p:Nat):Nat × Nat × Int:=
 if bWhole l (pfxFirst l p) = pfxFirst l p then (p,pfxFirst l p,0)
 else ((pfxR l (bWhole l (pfxFirst l p))).1,(pfxR l (bWhole l (pfxFirst l p))).2,if (pfxR l (bWhole l (pfxFirst l p))).1 > bWhole l (pfxFirst l p) then 2 else 1)
def stepZ (st c:Int):Int:=
 if st = 0 ∨ st = 1 then (if c = 45 ∧ st = 0 then 1 else if c = 48 then 2 else if digB c then 3 else -1)
 else if st = 2 ∨ st = 3 then (if digB c ∧ st = 3 then 3 else if c = 46 then 4 else if c = 101 ∨ c = 69 then 6 else -1)
 else if st = 4 then (if digB c then 5 else -1)
 else if st = 5 then (if digB c then 5 else if c = 101 ∨ c = 69 then 6 else -1)
 else if st = 6 then (if digB c then 8 else if c = 43 ∨ c = 45 then 7 else -1)
 else if st = 7 ∨ st = 8 then (if digB c then 8 else -1)
 else -1
def formZ (st:Int):Int:=if st = 2 ∨ st = 3 then 1 else if st = 5 ∨ st = 8 then 2 else 0
def runF (l:List Int):Nat → Int → Nat → Int → Nat → Nat × Nat × Int
 | 0,_,e,f,_ => (e,l.length,f)
 | m + 1,st,e,f,k =>
  if stepZ st (l.getD k 0) < 0 then (e,k,f)
  else if formZ (stepZ st (l.getD k 0)) ≠ 0 then runF l m (stepZ st (l.getD k 0)) (k + 1) (formZ (stepZ st (l.getD k 0))) (k + 1)
  else runF l m (stepZ st (l.getD k 0)) e f (k + 1)
def run (l:List Int) (st:Int) (e:Nat) (f:Int) (k:Nat):Nat × Nat × Int:=runF l (l.length - k) st e f k
theorem run_end {l:List Int} {k:Nat} (h:¬ k < l.length) (st:Int) (e:Nat) (f:Int):run l st e f k = (e,l.length,f):=by
 unfold run
 rw [show l.length - k = 0 by omega]
 rfl
theorem run_bad {l:List Int} {k:Nat} (h:k < l.length) {st:Int} (hs:stepZ st (l.getD k 0) < 0) (e:Nat) (f:Int):run l st e f k = (e,k,f):=by
 unfold run
 rw [show l.length - k = (l.length - (k + 1)) + 1 by omega]
 simp only [runF,hs,if_true]
theorem run_go {l:List Int} {k:Nat} (h:k < l.length) {st s':Int} (hs:stepZ st (l.getD k 0) = s') (h0:0 ≤ s') (hf:formZ s' = 0) (e:Nat) (f:Int):run l st e f k = run l s' e f (k + 1):=by
 unfold run
 rw [show l.length - k = (l.length - (k + 1)) + 1 by omega]
 simp only [runF,hs,hf,ne_eq,not_true,if_false,show ¬ s' < 0 by omega]
theorem run_take {l:List Int} {k:Nat} (h:k < l.length) {st s':Int} (hs:stepZ st (l.getD k 0) = s') (h0:0 ≤ s') (hf:formZ s' ≠ 0) (e:Nat) (f:Int):run l st e f k = run l s' (k + 1) (formZ s') (k + 1):=by
 unfold run
 rw [show l.length - k = (l.length - (k + 1)) + 1 by omega]
 simp only [runF,hs,ne_eq,hf,not_false_eq_true,if_true,show ¬ s' < 0 by omega,if_false]
theorem isAt_of {l:List Int} {k:Nat} (h:k < l.length) (c:Int):isAt l k c = (l.getD k 0 == c):=by simp [-List.getD_eq_getElem?_getD,isAt,h]
theorem digAt_of {l:List Int} {k:Nat} (h:k < l.length):digAt l k = digB (l.getD k 0):=by simp [-List.getD_eq_getElem?_getD,digAt,h]
theorem isAt_not {l:List Int} {k:Nat} (h:¬ k < l.length) (c:Int):isAt l k c = false:=by simp [-List.getD_eq_getElem?_getD,isAt,h]
theorem digAt_not {l:List Int} {k:Nat} (h:¬ k < l.length):digAt l k = false:=by simp [-List.getD_eq_getElem?_getD,digAt,h]
theorem digB_not {c:Int} (h:digB c = true):c ≠ 45 ∧ c ≠ 43 ∧ c ≠ 46 ∧ c ≠ 101 ∧ c ≠ 69:=by
 unfold digB at h
 simp only [Bool.and_eq_true,decide_eq_true_eq] at h
 omega
theorem run8 (l:List Int) (k:Nat) (hk:k ≤ l.length):run l 8 k 2 k = (digs l k,digs l k,2):=by
 generalize hm:l.length - k = m
 induction m generalizing k with
 | zero =>
  rw [run_end (by omega),digs_no (digAt_not (by omega)),show k = l.length by omega]
 | succ m ih =>
  have hl:k < l.length:=by omega
  cases h:digAt l k
  ·rw [digs_no h,run_bad hl]
   rw [digAt_of hl] at h
   simp [-List.getD_eq_getElem?_getD,stepZ,h]
  ·rw [digs_yes h,← ih (k + 1) (by omega) (by omega)]
   rw [digAt_of hl] at h
   exact run_take (s':=8) hl (by simp [-List.getD_eq_getElem?_getD,stepZ,h]) (by omega) (by decide) _ _
theorem run7 (l:List Int) (k:Nat) (hk:k ≤ l.length) (e:Nat) (f:Int):run l 7 e f k = if digAt l k then (digs l k,digs l k,2) else (e,k,f):=by
 by_cases hl:k < l.length
 ·cases h:digAt l k
  ·rw [run_bad hl]
   ·rfl
   ·rw [digAt_of hl] at h;simp [-List.getD_eq_getElem?_getD,stepZ,h]
  ·rw [digs_yes h,← run8 l (k + 1) (by omega)]
   rw [digAt_of hl] at h
   exact run_take (s':=8) hl (by simp [-List.getD_eq_getElem?_getD,stepZ,h]) (by omega) (by decide) _ _
 ·rw [run_end hl,digAt_not hl,show k = l.length by omega];rfl
def after6 (l:List Int) (k e:Nat) (f:Int):Nat × Nat × Int:=
 if digAt l k then (digs l k,digs l k,2) else if isAt l k 43 = true ∨ isAt l k 45 = true then (if digAt l (k + 1) then (digs l (k + 1),digs l (k + 1),2) else (e,k + 1,f)) else (e,k,f)
theorem run6 (l:List Int) (k:Nat) (hk:k ≤ l.length) (e:Nat) (f:Int):run l 6 e f k = after6 l k e f:=by
 unfold after6
 by_cases hl:k < l.length
 ·cases h:digAt l k
  ·by_cases hs:isAt l k 43 = true ∨ isAt l k 45 = true
   ·rw [if_neg (by simp),if_pos hs,← run7 l (k + 1) (by omega) e f]
    rw [isAt_of hl,isAt_of hl] at hs
    rw [digAt_of hl] at h
    refine run_go (s':=7) hl ?_ (by omega) (by decide) _ _
    simp only [beq_iff_eq] at hs
    simp [-List.getD_eq_getElem?_getD,stepZ,h,hs]
   ·rw [if_neg (by simp),if_neg hs,run_bad hl]
    rw [isAt_of hl,isAt_of hl] at hs
    rw [digAt_of hl] at h
    simp only [beq_iff_eq] at hs
    simp [-List.getD_eq_getElem?_getD,stepZ,h,hs]
  ·rw [if_pos rfl,digs_yes h,← run8 l (k + 1) (by omega)]
   rw [digAt_of hl] at h
   exact run_take (s':=8) hl (by simp [-List.getD_eq_getElem?_getD,stepZ,h]) (by omega) (by decide) _ _
 ·rw [run_end hl,digAt_not hl,isAt_not hl,isAt_not hl,show k = l.length by omega];simp
def isE (l:List Int) (k:Nat):Bool:=isAt l k 101 || isAt l k 69
theorem isE_of {l:List Int} {k:Nat} (h:k < l.length):isE l k = true ↔ (l.getD k 0 = 101 ∨ l.getD k 0 = 69):=by
 unfold isE
 rw [isAt_of h,isAt_of h]
 simp only [Bool.or_eq_true,beq_iff_eq]
theorem isE_not {l:List Int} {k:Nat} (h:¬ k < l.length):isE l k = false:=by simp [isE,isAt_not h]
def afterE (l:List Int) (d:Nat) (f:Int):Nat × Nat × Int:=if isE l d then after6 l (d + 1) d f else (d,d,f)
theorem run5 (l:List Int) (k:Nat) (hk:k ≤ l.length):run l 5 k 2 k = afterE l (digs l k) 2:=by
 generalize hm:l.length - k = m
 induction m generalizing k with
 | zero =>
  rw [run_end (by omega),digs_no (digAt_not (by omega))]
  unfold afterE
  rw [isE_not (by omega),show k = l.length by omega];rfl
 | succ m ih =>
  have hl:k < l.length:=by omega
  cases h:digAt l k
  ·rw [digs_no h]
   unfold afterE
   rw [digAt_of hl] at h
   cases he:isE l k
   ·rw [run_bad hl]
    ·rfl
    ·have:¬ (l.getD k 0 = 101 ∨ l.getD k 0 = 69):=fun h => (by simp [he]:¬ isE l k = true) ((isE_of hl).2 h)
     simp [-List.getD_eq_getElem?_getD,stepZ,h,this]
   ·rw [if_pos rfl,← run6 l (k + 1) (by omega)]
    refine run_go (s':=6) hl ?_ (by omega) (by decide) _ _
    have:=(isE_of hl).1 he
    simp [-List.getD_eq_getElem?_getD,stepZ,h,this]
  ·rw [digs_yes h,← ih (k + 1) (by omega) (by omega)]
   rw [digAt_of hl] at h
   exact run_take (s':=5) hl (by simp [-List.getD_eq_getElem?_getD,stepZ,h]) (by omega) (by decide) _ _
theorem run4 (l:List Int) (k:Nat) (hk:k ≤ l.length) (e:Nat) (f:Int):run l 4 e f k = if digAt l k then afterE l (digs l k) 2 else (e,k,f):=by
 by_cases hl:k < l.length
 ·cases h:digAt l k
  ·rw [run_bad hl]
   ·rfl
   ·rw [digAt_of hl] at h;simp [-List.getD_eq_getElem?_getD,stepZ,h]
  ·rw [if_pos rfl,digs_yes h,← run5 l (k + 1) (by omega)]
   rw [digAt_of hl] at h
   exact run_take (s':=5) hl (by simp [-List.getD_eq_getElem?_getD,stepZ,h]) (by omega) (by decide) _ _
 ·rw [run_end hl,digAt_not hl,show k = l.length by omega];rfl
def tailZ (l:List Int) (d:Nat):Nat × Nat × Int:=if isAt l d 46 then (if digAt l (d + 1) then afterE l (digs l (d + 1)) 2 else (d,d + 1,1)) else afterE l d 1
theorem run_tail (l:List Int) (k:Nat) (hk:k ≤ l.length) (st:Int) (hst:st = 2 ∨ (st = 3 ∧ digAt l k = false)):run l st k 1 k = tailZ l k:=by
 unfold tailZ
 by_cases hl:k < l.length
 ·have hnd:¬ (digB (l.getD k 0) = true ∧ st = 3):=by
   rcases hst with rfl | ⟨rfl,h⟩
   ·omega
   ·rw [digAt_of hl] at h;simp only [h];simp
  have hstep:stepZ st (l.getD k 0) = if l.getD k 0 = 46 then 4 else if l.getD k 0 = 101 ∨ l.getD k 0 = 69 then 6 else -1:=by
   unfold stepZ
   rw [if_neg (by omega),if_pos (by omega),if_neg hnd]
  cases h:isAt l k 46
  ·rw [isAt_of hl] at h
   have h46:¬ l.getD k 0 = 46:=by simpa [-List.getD_eq_getElem?_getD] using h
   rw [if_neg h46] at hstep
   unfold afterE
   cases he:isE l k
   ·have h2:=fun h => (by simp [he]:¬ isE l k = true) ((isE_of hl).2 h)
    rw [if_neg h2] at hstep
    rw [run_bad hl (by omega)]
    rfl
   ·have h2:=(isE_of hl).1 he
    rw [if_pos h2] at hstep
    rw [if_neg (by simp),if_pos rfl,← run6 l (k + 1) (by omega)]
    exact run_go (s':=6) hl hstep (by omega) (by decide) _ _
  ·rw [isAt_of hl] at h
   have h46:l.getD k 0 = 46:=by simpa [-List.getD_eq_getElem?_getD] using h
   rw [if_pos h46] at hstep
   rw [if_pos rfl,← run4 l (k + 1) (by omega)]
   exact run_go (s':=4) hl hstep (by omega) (by decide) _ _
 ·rw [run_end hl,isAt_not hl]
  have e:afterE l k 1 = (k,k,1):=by unfold afterE;rw [isE_not hl];rfl
  rw [e,show k = l.length by omega];rfl
theorem run3 (l:List Int) (k:Nat) (hk:k ≤ l.length):run l 3 k 1 k = tailZ l (digs l k):=by
 generalize hm:l.length - k = m
 induction m generalizing k with
 | zero =>
  have hd:digAt l k = false:=digAt_not (by omega)
  rw [digs_no hd]
  exact run_tail l k hk 3 (.inr ⟨rfl,hd⟩)
 | succ m ih =>
  have hl:k < l.length:=by omega
  cases h:digAt l k
  ·rw [digs_no h]
   exact run_tail l k hk 3 (.inr ⟨rfl,h⟩)
  ·rw [digs_yes h,← ih (k + 1) (by omega) (by omega)]
   rw [digAt_of hl] at h
   exact run_take (s':=3) hl (by simp [-List.getD_eq_getElem?_getD,stepZ,h]) (by omega) (by decide) _ _
def wholeZ (l:List Int) (p k:Nat):Nat × Nat × Int:=if isAt l k 48 then tailZ l (k + 1) else if digAt l k then tailZ l (digs l k) else (p,k,0)
theorem run_whole (l:List Int) (k:Nat) (hk:k ≤ l.length) (st:Int) (hst:st = 1 ∨ (st = 0 ∧ isAt l k 45 = false)) (p:Nat):run l st p 0 k = wholeZ l p k:=by
 unfold wholeZ
 by_cases hl:k < l.length
 ·have hstep:stepZ st (l.getD k 0) = if l.getD k 0 = 48 then 2 else if digB (l.getD k 0) then 3 else -1:=by
   unfold stepZ
   rw [if_pos (by omega),if_neg]
   rintro ⟨h1,h2⟩
   rcases hst with rfl | ⟨rfl,h⟩
   ·omega
   ·rw [isAt_of hl] at h;simp [-List.getD_eq_getElem?_getD] at h;exact h h1
  cases h:isAt l k 48
  ·rw [isAt_of hl] at h
   rw [if_neg (by simpa [-List.getD_eq_getElem?_getD] using h)] at hstep
   cases hd:digAt l k
   ·rw [digAt_of hl] at hd
    rw [hd,if_neg (by simp)] at hstep
    rw [run_bad hl (by omega)];rfl
   ·rw [if_neg (by simp),if_pos rfl,digs_yes hd,← run3 l (k + 1) (by omega)]
    rw [digAt_of hl] at hd
    rw [hd,if_pos rfl] at hstep
    exact run_take (s':=3) hl hstep (by omega) (by decide) _ _
  ·rw [isAt_of hl] at h
   rw [if_pos (by simpa [-List.getD_eq_getElem?_getD] using h)] at hstep
   rw [if_pos rfl,← run_tail l (k + 1) (by omega) 2 (.inl rfl)]
   exact run_take (s':=2) hl hstep (by omega) (by decide) _ _
 ·rw [run_end hl,isAt_not hl,digAt_not hl,show k = l.length by omega];rfl
theorem run0 (l:List Int) (p:Nat) (hp:p ≤ l.length):run l 0 p 0 p = wholeZ l p (pfxFirst l p):=by
 unfold pfxFirst
 cases h:isAt l p 45
 ·exact run_whole l p hp 0 (.inr ⟨rfl,h⟩) p
 ·have hl:=isAt_lt h
  rw [if_pos rfl,← run_whole l (p + 1) (by omega) 1 (.inl rfl) p]
  rw [isAt_of hl] at h
  exact run_go (s':=1) hl (by simp [-List.getD_eq_getElem?_getD] at h;simp [-List.getD_eq_getElem?_getD,stepZ,h]) (by omega) (by decide) _ _
theorem bPart_of (l:List Int) (p first:Nat) (h:p < first):bPart l p first = if digAt l first then (digs l first,digs l first) else (p,first):=by
 unfold bPart
 rw [if_neg (by omega)]
 cases hd:digAt l first
 ·rw [digs_no hd];simp
 ·have:=digs_pos hd
  rw [if_neg (by omega)];rfl
theorem bMark_e (l:List Int) (d:Nat):bMark l d = if isE l d then (if isAt l (d + 1) 43 = true ∨ isAt l (d + 1) 45 = true then d + 2 else d + 1) else d:=by
 unfold bMark isE
 cases h1:isAt l d 101 <;> cases h2:isAt l d 69 <;> simp
theorem part_mark (l:List Int) (d:Nat) (f:Int):afterE l d f = ((bPart l d (bMark l d)).1,(bPart l d (bMark l d)).2,if (bPart l d (bMark l d)).1 > d then 2 else f):=by
 rw [bMark_e]
 unfold afterE after6
 cases he:isE l d
 ·simp [bPart]
 ·simp only [if_true]
  cases hd:digAt l (d + 1)
  ·by_cases hs:isAt l (d + 1) 43 = true ∨ isAt l (d + 1) 45 = true
   ·rw [if_pos hs,if_pos hs,bPart_of l d (d + 2) (by omega)]
    cases hd2:digAt l (d + 2)
    ·simp
    ·have:=digs_pos hd2
     simp [show d < digs l (d + 2) by omega]
   ·rw [if_neg hs,if_neg hs,bPart_of l d (d + 1) (by omega),hd]
    simp
  ·have hns:¬ (isAt l (d + 1) 43 = true ∨ isAt l (d + 1) 45 = true):=by
    have hl:=digAt_lt hd
    rw [digAt_of hl] at hd
    rw [isAt_of hl,isAt_of hl]
    have:=digB_not hd
    simp only [beq_iff_eq]
    omega
   have:=digs_pos hd
   rw [if_neg hns,if_neg hns,bPart_of l d (d + 1) (by omega),hd]
   simp [show d < digs l (d + 1) by omega]
theorem part_tail (l:List Int) (e:Nat):tailZ l e = ((pfxR l e).1,(pfxR l e).2,if (pfxR l e).1 > e then 2 else 1):=by
 unfold tailZ pfxR bPoint
 cases h:isAt l e 46
 ·have e1:bPart l e e = (e,e):=by simp [bPart]
  simp only [e1,if_true,if_false,Bool.false_eq_true]
  exact part_mark l e 1
 ·simp only [if_true]
  rw [bPart_of l e (e + 1) (by omega)]
  cases hd:digAt l (e + 1)
  ·simp
  ·have:=digs_pos hd
   simp only [if_true]
   rw [part_mark]
   have h2:digs l (e + 1) ≤ (bPart l (digs l (e + 1)) (bMark l (digs l (e + 1)))).1:=by
    unfold bPart
    repeat' split
    ·exact Nat.le_refl _
    ·exact Nat.le_refl _
    ·rename_i h3 h4
     have h5:=(digs_le l (bMark l (digs l (e + 1)))).1
     have:digs l (e + 1) ≤ bMark l (digs l (e + 1)):=by
      unfold bMark
      repeat' split
      all_goals omega
     simp only
     omega
   have h3:(bPart l (digs l (e + 1)) (bMark l (digs l (e + 1)))).1 > e:=by omega
   rw [if_pos h3]
   split <;> rfl
theorem pfx_run (l:List Int) (p:Nat) (hp:p ≤ l.length):run l 0 p 0 p = pfx l p:=by
 rw [run0 l p hp]
 unfold wholeZ pfx bWhole
 cases h:isAt l (pfxFirst l p) 48
 ·simp only [Bool.false_eq_true,if_false]
  cases hd:digAt l (pfxFirst l p)
  ·rw [digs_no hd];simp
  ·have:=digs_pos hd
   rw [if_neg (by omega:¬ digs l (pfxFirst l p) = pfxFirst l p),part_tail];rfl
 ·simp only [if_true]
  rw [if_neg (by omega),part_tail]
theorem whole_le {l:List Int} {p:Nat} (h:p ≤ l.length):bWhole l p ≤ l.length:=by
 unfold bWhole
 split
 ·rename_i e;exact isAt_lt e
 ·exact (digs_le l p).2 h
theorem point_le {l:List Int} {p:Nat} (h:p ≤ l.length):bPoint l p ≤ l.length:=by
 unfold bPoint
 split
 ·rename_i e;exact isAt_lt e
 ·exact h
theorem mark_le {l:List Int} {p:Nat} (h:p ≤ l.length):bMark l p ≤ l.length:=by
 unfold bMark
 split
 ·exact h
 ·rename_i e
  split
  ·rename_i e2
   rcases e2 with e2 | e2
   ·exact isAt_lt e2
   ·exact isAt_lt e2
  ·cases h1:isAt l p 101
   ·cases h2:isAt l p 69
    ·exact absurd ⟨h1,h2⟩ e
    ·exact isAt_lt h2
   ·exact isAt_lt h1
theorem part_le {l:List Int} {p f:Nat} (h:p ≤ l.length) (hf:f ≤ l.length):(bPart l p f).1 ≤ l.length ∧ (bPart l p f).2 ≤ l.length:=by
 unfold bPart
 have:=(digs_le l f).2 hf
 repeat' split
 all_goals exact ⟨by simp only;omega,by simp only;omega⟩
theorem pfx_le (l:List Int) (p:Nat) (hp:p ≤ l.length):(pfx l p).1 ≤ l.length ∧ (pfx l p).2.1 ≤ l.length:=by
 rw [← pfx_run l p hp]
 unfold run
 generalize hm:l.length - p = m
 have:∀ (m:Nat) (st:Int) (e:Nat) (f:Int) (k:Nat),e ≤ l.length → k + m ≤ l.length → (runF l m st e f k).1 ≤ l.length ∧ (runF l m st e f k).2.1 ≤ l.length:=by
  intro m
  induction m with
  | zero => intro st e f k he hk;exact ⟨he,Nat.le_refl _⟩
  | succ m ih =>
   intro st e f k he hk
   simp only [runF]
   repeat' split
   ·exact ⟨he,by simp only;omega⟩
   ·exact ih _ _ _ _ (by omega) (by omega)
   ·exact ih _ _ _ _ he (by omega)
 exact this m 0 p 0 p hp (by omega)
end Go.Proofs.YtjlaoeigfokkiaaGreatDoor.mem
namespace Go.Proofs.YtjlaoeigfokkiaaGreatDoor.mem
set_option linter.unusedVariables false
def Dg (l:List Int):Prop:=∀ z ∈ l,48 ≤ z ∧ z ≤ 57
theorem Dg.nil:Dg []:=fun _ h => by simp at h
theorem Dg.app {a b:List Int} (ha:Dg a) (hb:Dg b):Dg (a ++ b):=fun z h => by
 rcases List.mem_append.1 h with h | h
 ·exact ha z h
 ·exact hb z h
theorem Dg.tail {a:Int} {b:List Int} (h:Dg (a :: b)):Dg b:=fun z hz => h z (List.mem_cons_of_mem _ hz)
theorem Dg.head {a:Int} {b:List Int} (h:Dg (a :: b)):digB a = true:=by
 have:=h a (by simp)
 simp [digB,this.1,this.2]
def dv (l:List Int):Nat:=l.foldl (fun v z => v * 10 + (z - 48).toNat) 0
theorem dv_from (l:List Int):∀ v:Nat,l.foldl (fun v z => v * 10 + (z - 48).toNat) v = v * 10 ^ l.length + dv l:=by
 induction l with
 | nil => intro v;simp [dv]
 | cons a l ih =>
  intro v
  show l.foldl _ (v * 10 + (a - 48).toNat) = _
  have e:dv (a :: l) = l.foldl (fun v z => v * 10 + (z - 48).toNat) (0 * 10 + (a - 48).toNat):=rfl
  rw [ih,e,ih,List.length_cons,Nat.pow_succ,Nat.zero_mul,Nat.zero_add,Nat.add_mul,Nat.mul_assoc v 10,Nat.mul_comm 10 (10 ^ _)]
  omega
theorem dv_app (a b:List Int):dv (a ++ b) = dv a * 10 ^ b.length + dv b:=by
 have e:dv (a ++ b) = b.foldl (fun v z => v * 10 + (z - 48).toNat) (dv a):=List.foldl_append
 rw [e,dv_from]
theorem dv_cons (a:Int) (b:List Int):dv (a :: b) = (a - 48).toNat * 10 ^ b.length + dv b:=by
 have:=dv_app [a] b
 rw [List.singleton_append] at this
 rw [this]
 simp [dv]
theorem dv_zeros (n:Nat):dv (List.replicate n 48) = 0:=by
 induction n with
 | zero => rfl
 | succ n ih => rw [List.replicate_succ,dv_cons,ih];simp
theorem dv_lt (l:List Int) (h:Dg l):dv l < 10 ^ l.length:=by
 induction l with
 | nil => decide
 | cons a l ih =>
  have h1:=ih h.tail
  have h2:=h a (by simp)
  rw [dv_cons,List.length_cons,Nat.pow_succ]
  have:(a - 48).toNat * 10 ^ l.length ≤ 9 * 10 ^ l.length:=Nat.mul_le_mul_right _ (by omega)
  omega
def trm (l:List Int):List Int:=l.dropWhile (fun z => z == 48)
theorem dv_trm (l:List Int):dv (trm l) = dv l:=by
 induction l with
 | nil => rfl
 | cons a l ih =>
  unfold trm at *
  rw [List.dropWhile_cons]
  by_cases h:a = 48
  ·subst h
   rw [if_pos (by decide),ih,dv_cons]
   simp
  ·rw [if_neg (by simpa using h)]
theorem trm_dg {l:List Int} (h:Dg l):Dg (trm l):=fun z hz => h z ((List.dropWhile_suffix _).subset hz)
theorem trm_len (l:List Int):(trm l).length ≤ l.length:=(List.dropWhile_suffix _).length_le
theorem trm_head (l:List Int):∀ z r,trm l = z :: r → z ≠ 48:=by
 intro z r h e
 unfold trm at h
 have:=List.head?_dropWhile_not (fun z:Int => z == 48) l
 rw [h] at this
 simp [e] at this
def sgL (ng:Bool):List Int:=if ng then [45] else []
def frL (F:List Int):List Int:=if F = [] then [] else 46 :: F
def exL:Option (Bool × List Int) → List Int
 | none => []
 | some (g,X) => 101 :: (sgL g ++ X)
def exV:Option (Bool × List Int) → Int
 | none => 0
 | some (g,X) => if g then -(dv X:Int) else (dv X:Int)
def exO:Option (Bool × List Int) → Prop
 | none => True
 | some (_,X) => Dg X ∧ X ≠ []
theorem digs_app:∀ (D P R:List Int),Dg D → (∀ z r,R = z :: r → digB z = false) → digs (P ++ (D ++ R)) P.length = P.length + D.length:=by
 intro D
 induction D with
 | nil =>
  intro P R _ hR
  rw [List.nil_append]
  refine digs_no ?_
  cases R with
  | nil => exact digAt_not (by simp)
  | cons z r => rw [digAt_of (by simp)];simpa using hR z r rfl
 | cons d D ih =>
  intro P R hD hR
  have h1:digAt (P ++ (d :: D ++ R)) P.length = true:=by
   rw [digAt_of (by simp)];simpa using hD.head
  have h2:=ih (P ++ [d]) R hD.tail hR
  rw [digs_yes h1]
  rw [List.append_assoc,List.length_append] at h2
  rw [show P ++ (d :: D ++ R) = P ++ ([d] ++ (D ++ R)) by simp]
  rw [show P.length + 1 = P.length + [d].length from rfl,h2]
  simp;omega
theorem isAt_here (P:List Int) (z:Int) (R:List Int) (c:Int):isAt (P ++ z :: R) P.length c = (z == c):=by
 rw [isAt_of (by simp)];simp
theorem isAt_end (P:List Int) (c:Int):isAt P P.length c = false:=isAt_not (by omega) c
theorem not_dig {z:Int} (h:z = 46 ∨ z = 101 ∨ z = 45 ∨ z = 43 ∨ z = 69):digB z = false:=by
 rcases h with rfl | rfl | rfl | rfl | rfl <;> decide
theorem pfx_text (ng:Bool) (A F:List Int) (E:Option (Bool × List Int)) (hA:Dg A) (hA0:A ≠ []) (hA1:∀ r,A = 48 :: r → r = []) (hF:Dg F) (hE:exO E) :
  pfx (sgL ng ++ (A ++ (frL F ++ exL E))) 0 = ((sgL ng ++ (A ++ (frL F ++ exL E))).length,(sgL ng ++ (A ++ (frL F ++ exL E))).length,if F = [] ∧ E = none then 1 else 2):=by
 obtain ⟨l,hl⟩:∃ l,l = sgL ng ++ (A ++ (frL F ++ exL E)):=⟨_,rfl⟩
 obtain ⟨a,A',rfl⟩:∃ a A',A = a :: A':=by
  cases A with
  | nil => exact absurd rfl hA0
  | cons a A' => exact ⟨a,A',rfl⟩
 have ha:=hA.head
 have ha2:=digB_not ha
 have hx:∀ z r,exL E = z :: r → z = 101:=by
  intro z r h
  cases E with
  | none => simp [exL] at h
  | some q => obtain ⟨g,X⟩:=q;simp [exL] at h;exact h.1.symm
 have hfx:∀ z r,frL F ++ exL E = z :: r → digB z = false:=by
  intro z r h
  unfold frL at h
  by_cases h0:F = []
  ·rw [if_pos h0,List.nil_append] at h
   exact not_dig (Or.inr (Or.inl (hx z r h)))
  ·rw [if_neg h0] at h
   simp at h
   exact not_dig (Or.inl h.1.symm)
 have f1:pfxFirst l 0 = (sgL ng).length:=by
  unfold pfxFirst
  cases ng
  ·have:isAt l 0 45 = false:=by
    have:=isAt_here [] a (A' ++ (frL F ++ exL E)) 45
    rw [hl]
    simp only [sgL,List.nil_append,List.length_nil,List.cons_append,Bool.false_eq_true,if_false] at this ⊢
    rw [this];simp;exact ha2.1
   rw [this];rfl
  ·have:isAt l 0 45 = true:=by
    have:=isAt_here [] 45 (a :: A' ++ (frL F ++ exL E)) 45
    rw [hl]
    simpa [sgL] using this
   rw [this];rfl
 have f2:bWhole l (sgL ng).length = (sgL ng).length + (a :: A').length:=by
  unfold bWhole
  have h1:=isAt_here (sgL ng) a (A' ++ (frL F ++ exL E)) 48
  have h2:=digs_app (a :: A') (sgL ng) (frL F ++ exL E) hA hfx
  rw [hl]
  rw [h2]
  rw [List.cons_append,h1]
  by_cases h48:a = 48
  ·subst h48
   rw [hA1 A' rfl]
   simp
  ·simp [h48]
 obtain ⟨e,he⟩:∃ e,e = (sgL ng).length + (a :: A').length:=⟨_,rfl⟩
 obtain ⟨Q,hQ⟩:∃ Q,Q = sgL ng ++ a :: A':=⟨_,rfl⟩
 have hQl:Q.length = e:=by rw [hQ,he,List.length_append]
 have hlQ:l = Q ++ (frL F ++ exL E):=by rw [hl,hQ,List.append_assoc]
 obtain ⟨e',he'⟩:∃ e',e' = e + (frL F).length:=⟨_,rfl⟩
 have f3:bPart l e (bPoint l e) = (e',e'):=by
  unfold bPart bPoint
  by_cases h0:F = []
  ·have hi:isAt l e 46 = false:=by
    rw [hlQ,← hQl,h0]
    cases hE':exL E with
    | nil => simp only [frL,if_true,List.append_nil];exact isAt_end Q 46
    | cons z r => simp only [frL,if_true,List.nil_append];rw [isAt_here,hx z r hE'];decide
   have:(frL F).length = 0:=by simp [frL,h0]
   simp [hi,he',this]
  ·have hi:isAt l e 46 = true:=by
    rw [hlQ,← hQl]
    simp only [frL,if_neg h0,List.cons_append]
    rw [isAt_here];rfl
   have hd:digs l (e + 1) = e':=by
    have:=digs_app F (Q ++ [46]) (exL E) hF (fun z r h => not_dig (Or.inr (Or.inl (hx z r h))))
    rw [List.length_append,hQl] at this
    rw [hlQ,he']
    simp only [frL,if_neg h0,List.cons_append,List.length_cons]
    rw [show Q ++ 46 :: (F ++ exL E) = Q ++ [46] ++ (F ++ exL E) by simp]
    rw [show e + 1 = e + [(46:Int)].length from rfl,this]
    simp;omega
   have hFl:0 < F.length:=List.length_pos_iff.2 h0
   have:(frL F).length = F.length + 1:=by simp [frL,h0]
   rw [hi,if_pos rfl,if_neg (by omega),hd,if_neg (by omega)]
 obtain ⟨Q',hQ'⟩:∃ Q',Q' = Q ++ frL F:=⟨_,rfl⟩
 have hQl':Q'.length = e':=by rw [hQ',List.length_append,hQl,he']
 have hlQ':l = Q' ++ exL E:=by rw [hlQ,hQ',List.append_assoc]
 have f4:bPart l e' (bMark l e') = (l.length,l.length):=by
  cases E with
  | none =>
   have hle:l = Q':=by rw [hlQ'];simp [exL]
   have h1:∀ c,isAt l e' c = false:=fun c => by rw [hle,← hQl'];exact isAt_end Q' c
   have hll:l.length = e':=by rw [hle,hQl']
   unfold bPart bMark
   rw [h1,h1,hll]
   simp
  | some q =>
   obtain ⟨g,X⟩:=q
   obtain ⟨hX,hX0⟩:=hE
   have hXl:0 < X.length:=List.length_pos_iff.2 hX0
   have h1:isAt l e' 101 = true:=by
    rw [hlQ',← hQl']
    simp only [exL]
    rw [isAt_here];rfl
   have hm0:bMark l e' = if isAt l (e' + 1) 43 = true ∨ isAt l (e' + 1) 45 = true then e' + 2 else e' + 1:=by
    unfold bMark
    rw [if_neg (by rw [h1];simp)]
   cases g
   ·obtain ⟨x,X',rfl⟩:∃ x X',X = x :: X':=by
     cases X with
     | nil => exact absurd rfl hX0
     | cons x X' => exact ⟨x,X',rfl⟩
    have hx2:=digB_not hX.head
    have h2:∀ c,isAt l (e' + 1) c = (x == c):=fun c => by
     have:=isAt_here (Q' ++ [101]) x X' c
     rw [List.length_append,hQl'] at this
     rw [hlQ']
     simp only [exL,sgL,List.nil_append,Bool.false_eq_true,if_false]
     rw [show Q' ++ 101 :: x :: X' = Q' ++ [101] ++ x :: X' by simp]
     exact this
    have hd:digs l (e' + 1) = l.length:=by
     have:=digs_app (x :: X') (Q' ++ [101]) [] hX (fun z r h => by simp at h)
     rw [List.length_append,hQl'] at this
     rw [hlQ']
     simp only [exL,sgL,List.nil_append,Bool.false_eq_true,if_false]
     rw [show Q' ++ 101 :: x :: X' = Q' ++ [101] ++ (x :: X' ++ []) by simp]
     rw [show e' + 1 = e' + [(101:Int)].length from rfl,this]
     simp;omega
    rw [hm0,if_neg (by rw [h2,h2];simp;exact ⟨hx2.2.1,hx2.1⟩)]
    unfold bPart
    rw [if_neg (by omega),hd,if_neg]
    rw [hlQ']
    simp [exL,sgL];omega
   ·have h2:isAt l (e' + 1) 45 = true:=by
     have:=isAt_here (Q' ++ [101]) 45 X 45
     rw [List.length_append,hQl'] at this
     rw [hlQ']
     simp only [exL,sgL,if_true,List.singleton_append]
     rw [show Q' ++ 101 :: 45 :: X = Q' ++ [101] ++ 45 :: X by simp]
     exact this
    have hd:digs l (e' + 2) = l.length:=by
     have:=digs_app X (Q' ++ [101,45]) [] hX (fun z r h => by simp at h)
     rw [List.length_append,hQl'] at this
     rw [hlQ']
     simp only [exL,sgL,if_true,List.singleton_append]
     rw [show Q' ++ 101 :: 45 :: X = Q' ++ [101,45] ++ (X ++ []) by simp]
     rw [show e' + 2 = e' + [(101:Int),45].length from rfl,this]
     simp;omega
    rw [hm0,if_pos (Or.inr h2)]
    unfold bPart
    rw [if_neg (by omega),hd,if_neg]
    rw [hlQ']
    simp [exL,sgL];omega
 rw [← hl]
 unfold pfx
 rw [f1,f2,if_neg (by simp),← he]
 have f5:pfxR l e = (l.length,l.length):=by
  unfold pfxR
  rw [f3,if_pos rfl,f4]
 rw [f5]
 refine congrArg (fun q => (l.length,l.length,q)) ?_
 have hlen:l.length = e' + (exL E).length:=by rw [hlQ',List.length_append,hQl']
 show (if l.length > e then (2:Int) else 1) = _
 by_cases h0:F = [] ∧ E = none
 ·rw [if_pos h0,if_neg]
  rw [hlen,he',h0.1,h0.2]
  simp [frL,exL]
 ·rw [if_neg h0,if_pos]
  rw [hlen,he']
  by_cases h1:F = []
  ·cases E with
   | none => exact absurd ⟨h1,rfl⟩ h0
   | some q => simp [exL];omega
  ·simp [frL,h1];omega
end Go.Proofs.YtjlaoeigfokkiaaGreatDoor.mem
