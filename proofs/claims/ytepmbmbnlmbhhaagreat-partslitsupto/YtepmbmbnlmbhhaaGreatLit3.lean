import Derived.Test.YtepmbmbnlmbhhaaGreatLit2
import Derived.Laws.RangeAny
import Derived.Laws.IdiomStrings
set_option linter.unusedVariables false
set_option linter.unusedSimpArgs false
namespace Go.Proofs.YtepmbmbnlmbhhaaGreat.sv
open Go.ChangeShapes Go.WideShapes Go.ChangeAt Go.RowKit
open mem
open ints (Hi uh soP)
theorem ind_all (l:List Int) (h:∀ j,j < l.length → whB (l.getD j 0) = true):ind l = l.length:=by
 have hb:blk l = true:=by
  unfold blk
  rw [List.all_eq_true]
  intro x hx
  obtain ⟨i,hi,rfl⟩:=List.mem_iff_getElem.1 hx
  have:=h i hi
  simpa [List.getD,hi] using this
 rw [blk_ind] at hb
 exact beq_iff_eq.1 hb
theorem ind_stop:∀ (l:List Int) (k:Nat),k < l.length → (∀ j,j < k → whB (l.getD j 0) = true) → whB (l.getD k 0) = false → ind l = k
 | [],k,h,_,_ => by simp at h
 | c :: r,0,_,_,h => ind0 (by simpa using h)
 | c :: r,k + 1,h,h1,h2 => by
  have hc:whB c = true:=by simpa using h1 0 (by omega)
  have e:ind (c :: r) = ind r + 1:=by unfold ind;rw [List.takeWhile_cons,hc];simp
  rw [e,ind_stop r k (by simp at h;omega) (fun j hj => by simpa using h1 (j + 1) (by omega)) (by simpa using h2)]
set_option maxHeartbeats 1000000 in
theorem indent_ok (a:Option Addr) (n c:Nat) (l:List Int) (w:World) (h:Row .i32 w a n c l) (hn:n ≤ 9223372036854775806) :
  Calls Tryz.prog 186 #[.slice a n c] w fun e w' => e = .returned (.int .i64 (ind l:Nat)) ∧ w' = w:=by
 have HL:=Hi h.len
 go_enter Tryz.func186,Tryz.ntmps186
 go_wp2
 go_loopw [7] (fun i wr => ∃ k:Nat,k ≤ n ∧ i = .int .i64 k ∧ wr = w ∧ Hid (∀ j,j < k → whB (l.getD j 0) = true)) (fun i _ => n - (intOf i).toNat)
 case atStart => exact ⟨0,Nat.zero_le _,rfl,rfl,Hi (fun j hj => by omega)⟩
 case round =>
  obtain ⟨k,hk,rfl,rfl,hw⟩:=hrel
  by_cases hlt:k < n
  ·rcases h.at_ with h0 | ⟨b,off,rfl,hbw,hcell⟩
   ·omega
   have c1:=hcell k hlt
   obtain ⟨x,hx⟩:∃ x,x = l.getD k 0:=⟨_,rfl⟩
   rw [← hx] at c1
   have Hx:=Hi hx
   clear hx hcell
   by_cases h9:x = 9
   ·subst h9
    go_wp2
    refine ⟨⟨k + 1,by omega,rfl,trivial,Hi (fun j hj => ?_)⟩,by simp only [intOf];omega⟩
    by_cases e:j = k
    ·subst e;rw [← uh Hx];rfl
    ·exact uh hw j (by omega)
   ·by_cases h32:x = 32
    ·subst h32
     go_wp2
     refine ⟨⟨k + 1,by omega,rfl,trivial,Hi (fun j hj => ?_)⟩,by simp only [intOf];omega⟩
     by_cases e:j = k
     ·subst e;rw [← uh Hx];rfl
     ·exact uh hw j (by omega)
    ·have b9:(x != 9) = true:=by simp [h9]
     have b32:(x != 32) = true:=by simp [h32]
     go_wp2
     go_ret
     have e:ind l = k:=ind_stop l k (by rw [uh HL];exact hlt) (uh hw) (by rw [← uh Hx];simp [whB,h9,h32])
     rw [e]
     exact ⟨rfl,rfl⟩
  ·obtain rfl:k = n:=by omega
   go_wp2
   go_ret
   have e:ind l = k:=by rw [ind_all l (fun j hj => uh hw j (by rw [← uh HL];exact hj)),uh HL]
   rw [e]
   exact ⟨rfl,rfl⟩
theorem blank_ok (a:Option Addr) (n c:Nat) (l:List Int) (w:World) (h:Row .i32 w a n c l) (hn:n ≤ 9223372036854775806) :
  Calls Tryz.prog 173 #[.slice a n c] w fun e w' => e = .returned (.bool (blk l)) ∧ w' = w:=by
 have I:=Hi (fun W (hW:Row .i32 W a n c l) => indent_ok a n c l W hW hn)
 have e:blk l = (((ind l:Nat):Int) == (n:Int)):=by
  rw [blk_ind,h.len,Bool.eq_iff_iff,beq_iff_eq,beq_iff_eq]
  omega
 rw [e]
 obtain ⟨m,hm⟩:∃ m,m = ind l:=⟨_,rfl⟩
 rw [← hm] at I ⊢
 clear e hm
 go_enter Tryz.func173,Tryz.ntmps173
 go_wp2_with fail
 refine (uh I _ h).mono ?_
 rintro e w1 ⟨rfl,rfl⟩
 clear I
 go_wp2
 go_ret
 exact ⟨rfl,rfl⟩
structure Lns (w:World) (b off n c:Nat) (L:List (List Int)):Prop where
 len:L.length = n
 le:n ≤ c
 lt:b < w.heap.size
 at_:∀ i,i < n → ∃ ai ci,w.cell? ⟨b,off + i,none⟩ = some (.slice ai (L.getD i []).length ci) ∧ Row .i32 w ai (L.getD i []).length ci (L.getD i []) ∧ ∃ bi oi,ai = some ⟨bi,oi,none⟩
theorem Lns.below {w w':World} {b off n c:Nat} {L:List (List Int)} (h:Lns w b off n c L) (hb:Below w.heap.size w w'):Lns w' b off n c L:=
 ⟨h.len,h.le,Nat.lt_of_lt_of_le h.lt hb.size,fun i hi => by
  obtain ⟨ai,ci,h1,h2,h3⟩:=h.at_ i hi
  exact ⟨ai,ci,(hb.cell (p:=⟨b,off + i,none⟩) h.lt).trans h1,h2.below hb,h3⟩⟩
theorem lns_of {w:World} {base:Nat} {v:Value} {gs:List Nat} {L:List (List Int)} (h:LinesAt w base v gs L) (hn:0 < L.length):∃ b c,v = .slice (some ⟨b,0,none⟩) L.length c ∧ Lns w b 0 L.length c L:=by
 obtain ⟨h1,h2⟩:=h.own
 rcases h2 with ⟨_,h0⟩ | ⟨g,cap,cur,rfl,hg,hh,hnc,hcm,hcs,hx⟩
 ·omega
 refine ⟨g,cap,rfl,rfl,hnc,(by rcases Nat.lt_or_ge g w.heap.size with h | h;exact h;rw [Array.getElem?_eq_none h] at hh;cases hh),fun i hi => ?_⟩
 have hr:=own_row (h.each i hi)
 obtain ⟨a,cp,e,hrow⟩:=hr
 refine ⟨a,cp,?_,hrow,⟨_,_,by simp only [lineVal,Value.slice.injEq] at e;exact e.1.symm⟩⟩
 rw [Nat.zero_add]
 rw [World.ownsRow.cellAt (base:=base) (e:=109) (size:=1) (n:=L.length) (cap:=cap) (xs:=List.zipWith lineVal gs L) ⟨h1,.inr ⟨g,cap,cur,rfl,hg,hh,hnc,hcm,hcs,hx⟩⟩ _ (by omega)]
 rw [← e]
 have hl:i < gs.length:=by rw [h.len];exact hi
 rw [List.getElem?_zipWith]
 simp [List.getD,hi,hl]
theorem lst_snoc (L:List (List Int)) (x:List Int):lst (L ++ [x]) = if blk x then lst L else some (match lst L with | none => ind x | some m => min (ind x) m):=by
 induction L with
 | nil => simp [lst]
 | cons y L ih =>
  rw [List.cons_append,lst,ih]
  cases hx:blk x
  ·cases hy:blk y
   ·simp only [Bool.false_eq_true,if_false]
    rw [lst,hy]
    cases lst L with
    | none => simp [Nat.min_comm]
    | some m => simp;omega
   ·simp only [Bool.false_eq_true,if_false,if_true]
    rw [lst,hy,if_pos rfl]
  ·cases hy:blk y
   ·simp only [Bool.false_eq_true,if_false,if_true]
    rw [lst,hy]
    simp
   ·simp only [if_true]
    rw [lst,hy,if_pos rfl]
def lsI (L:List (List Int)):Int:=match lst L with | none => -1 | some m => m
theorem lsI_snoc (L:List (List Int)) (x:List Int):lsI (L ++ [x]) = if (ind x:Int) < (x.length:Int) ∧ (lsI L < 0 ∨ (ind x:Int) < lsI L) then (ind x:Int) else lsI L:=by
 have hb:=blk_ind x
 have hle:=ind_le x
 unfold lsI
 rw [lst_snoc]
 cases hx:blk x
 ·rw [hx] at hb
  have hlt:ind x < x.length:=by
   have:¬ ind x = x.length:=fun e => by rw [e] at hb;simp at hb
   omega
  cases lst L with
  | none => simp only [Bool.false_eq_true,if_false];rw [if_pos (by omega)]
  | some m =>
   simp only [Bool.false_eq_true,if_false]
   by_cases h:ind x < m
   ·rw [if_pos (by omega)];omega
   ·rw [if_neg (by omega)];omega
 ·rw [hx] at hb
  have e:ind x = x.length:=beq_iff_eq.1 hb.symm
  simp only [if_true]
  rw [if_neg (by omega)]
theorem take_snoc' (L:List (List Int)) (k:Nat) (h:k < L.length):L.take (k + 1) = L.take k ++ [L.getD k []]:=by
 rw [List.take_add_one]
 simp [List.getD,h]
theorem lsI_next (L:List (List Int)) (k:Nat) (h:k < L.length):lsI (L.take (k + 1)) = if (ind (L.getD k []):Int) < ((L.getD k []).length:Int) ∧ (lsI (L.take k) < 0 ∨ (ind (L.getD k []):Int) < lsI (L.take k)) then (ind (L.getD k []):Int) else lsI (L.take k):=by
 rw [take_snoc' L k h]
 exact lsI_snoc _ _
theorem lsI_ge (L:List (List Int)):-1 ≤ lsI L:=by
 unfold lsI
 cases lst L <;> simp only <;> omega
set_option maxHeartbeats 4000000 in
theorem least_ok (b off n c:Nat) (L:List (List Int)) (w:World) (h:Lns w b off n c L) (hn:n ≤ 9223372036854775806) (hm:∀ i,(L.getD i []).length ≤ 1099511627776) :
  Calls Tryz.prog 187 #[.slice (some ⟨b,off,none⟩) n c] w fun e w' => e = .returned (.int .i64 (max (lsI L) 0)) ∧ Below w.heap.size w w':=by
 have HL:=Hi h.len
 go_enter Tryz.func187,Tryz.ntmps187
 go_wp2
 go_loopw [3,9] (fun t i wr => ∃ k:Nat,k ≤ n ∧ i = .int .i64 k ∧ t = .int .i64 (lsI (L.take k)) ∧ Below w.heap.size w wr) (fun _ i _ => n - (intOf i).toNat)
 case atStart => exact ⟨0,Nat.zero_le _,rfl,rfl,Below.refl _ _⟩
 case round =>
  obtain ⟨k,hk,rfl,rfl,hb⟩:=hrel
  by_cases hlt:k < n
  ·obtain ⟨ai,ci,h1,h2,_⟩:=(h.below hb).at_ k hlt
   have I:=Hi (fun W (hW:Row .i32 W ai (L.getD k []).length ci (L.getD k [])) => indent_ok ai _ ci _ W hW (by have:=hm k;omega))
   have hsn:=Hi (lsI_next L k (by rw [uh HL];exact hlt))
   have hge:=lsI_ge (L.take k)
   have hmk:=hm k
   have H2:=Hi h2
   obtain ⟨x,hx⟩:∃ x,x = L.getD k []:=⟨_,rfl⟩
   rw [← hx] at h1 I hsn hmk H2
   obtain ⟨T,hT⟩:∃ T,T = lsI (L.take k):=⟨_,rfl⟩
   rw [← hT] at hsn hge ⊢
   have hil:=ind_le x
   obtain ⟨m,hm2⟩:∃ m,m = ind x:=⟨_,rfl⟩
   rw [← hm2] at I hsn hil
   obtain ⟨q,hq⟩:∃ q,q = x.length:=⟨_,rfl⟩
   rw [← hq] at h1 I hsn hmk hil H2
   clear hx hT hm2 hq h2 hm
   have hle:=h.le
   have HB:=Hi hb
   by_cases c1:(m:Int) < (q:Int)
   ·by_cases c2:T < 0
    ·have e:=Hi (show lsI (L.take (k + 1)) = (m:Int) by rw [uh hsn,if_pos ⟨c1,.inl c2⟩])
     go_wp2_with fail
     refine (uh I _ (uh H2)).mono ?_
     rintro e w1 ⟨rfl,rfl⟩
     go_wp2
     refine ⟨⟨k + 1,by omega,rfl,by rw [uh e],uh HB⟩,by simp only [intOf];omega⟩
    ·by_cases c3:(m:Int) < T
     ·have e:=Hi (show lsI (L.take (k + 1)) = (m:Int) by rw [uh hsn,if_pos ⟨c1,.inr c3⟩])
      go_wp2_with fail
      refine (uh I _ (uh H2)).mono ?_
      rintro e w1 ⟨rfl,rfl⟩
      go_wp2
      refine ⟨⟨k + 1,by omega,rfl,by rw [uh e],uh HB⟩,by simp only [intOf];omega⟩
     ·have e:=Hi (show lsI (L.take (k + 1)) = T by rw [uh hsn,if_neg (by omega)])
      go_wp2_with fail
      refine (uh I _ (uh H2)).mono ?_
      rintro e w1 ⟨rfl,rfl⟩
      go_wp2
      refine ⟨⟨k + 1,by omega,rfl,by rw [uh e],uh HB⟩,by simp only [intOf];omega⟩
   ·have e:=Hi (show lsI (L.take (k + 1)) = T by rw [uh hsn,if_neg (by omega)])
    go_wp2_with fail
    refine (uh I _ (uh H2)).mono ?_
    rintro e w1 ⟨rfl,rfl⟩
    go_wp2
    refine ⟨⟨k + 1,by omega,rfl,by rw [uh e],uh HB⟩,by simp only [intOf];omega⟩
  ·obtain rfl:k = n:=by omega
   have e:L.take k = L:=List.take_of_length_le (by rw [uh HL];omega)
   rw [e]
   have hge:=lsI_ge L
   obtain ⟨T,hT⟩:∃ T,T = lsI L:=⟨_,rfl⟩
   rw [← hT] at hge ⊢
   have HT:=Hi hT
   clear hT
   have HB:=Hi hb
   by_cases c0:T < 0
   ·have e2:=Hi (show max T 0 = 0 by omega)
    go_wp2
    go_ret
    rw [← uh HT,uh e2]
    exact ⟨rfl,uh HB⟩
   ·have e2:=Hi (show max T 0 = T by omega)
    go_wp2
    go_ret
    rw [← uh HT,uh e2]
    exact ⟨rfl,uh HB⟩
end Go.Proofs.YtepmbmbnlmbhhaaGreat.sv
namespace Go.Proofs.YtepmbmbnlmbhhaaGreat.mem
def isAt (l:List Int) (p:Nat) (c:Int):Bool:=decide (p < l.length) && (l.getD p 0 == c)
def digB (c:Int):Bool:=decide (48 ≤ c) && decide (c ≤ 57)
def digAt (l:List Int) (p:Nat):Bool:=decide (p < l.length) && digB (l.getD p 0)
def digsF (l:List Int):Nat → Nat → Nat
 | 0,p => p
 | f + 1,p => if digAt l p then digsF l f (p + 1) else p
def digs (l:List Int) (p:Nat):Nat:=digsF l (l.length - p) p
theorem digAt_lt {l:List Int} {p:Nat} (h:digAt l p = true):p < l.length:=by
 unfold digAt at h
 simp only [Bool.and_eq_true,decide_eq_true_eq] at h
 exact h.1
theorem isAt_lt {l:List Int} {p:Nat} {c:Int} (h:isAt l p c = true):p < l.length:=by
 unfold isAt at h
 simp only [Bool.and_eq_true,decide_eq_true_eq] at h
 exact h.1
theorem digs_yes {l:List Int} {p:Nat} (h:digAt l p = true):digs l p = digs l (p + 1):=by
 have hl:=digAt_lt h
 unfold digs
 rw [show l.length - p = (l.length - (p + 1)) + 1 by omega]
 simp only [digsF,h,if_true]
theorem digs_no {l:List Int} {p:Nat} (h:digAt l p = false):digs l p = p:=by
 unfold digs
 cases l.length - p with
 | zero => rfl
 | succ f => simp only [digsF,h];rfl
theorem digsF_le (l:List Int) (f p:Nat):p ≤ digsF l f p ∧ digsF l f p ≤ p + f:=by
 induction f generalizing p with
 | zero => simp [digsF]
 | succ f ih =>
  simp only [digsF]
  split
  ·have:=ih (p + 1);omega
  ·omega
theorem digs_le (l:List Int) (p:Nat):p ≤ digs l p ∧ (p ≤ l.length → digs l p ≤ l.length):=by
 have:=digsF_le l (l.length - p) p
 unfold digs
 omega
theorem digs_pos {l:List Int} {p:Nat} (h:digAt l p = true):p + 1 ≤ digs l p:=by
 rw [digs_yes h];exact (digs_le l (p + 1)).1
theorem digs_end {l:List Int} {p:Nat}:digAt l (digs l p) = false:=by
 unfold digs
 generalize hf:l.length - p = f
 induction f generalizing p with
 | zero =>
  unfold digsF digAt
  have:¬ p < l.length:=by omega
  simp [this]
 | succ f ih =>
  simp only [digsF]
  cases h:digAt l p
  ·simpa using h
  ·simpa using ih (p:=p + 1) (by omega)
def bWhole (l:List Int) (p:Nat):Nat:=if isAt l p 48 then p + 1 else digs l p
def bPart (l:List Int) (p first:Nat):Nat × Nat:=if first = p then (p,p) else if digs l first = first then (p,digs l first) else (digs l first,digs l first)
def bPoint (l:List Int) (p:Nat):Nat:=if isAt l p 46 then p + 1 else p
def bMark (l:List Int) (p:Nat):Nat:=if isAt l p 101 = false ∧ isAt l p 69 = false then p else if isAt l (p + 1) 43 = true ∨ isAt l (p + 1) 45 = true then p + 2 else p + 1
def pfxFirst (l:List Int) (p:Nat):Nat:=if isAt l p 45 then p + 1 else p
def pfxR (l:List Int) (e:Nat):Nat × Nat:=
 if (bPart l e (bPoint l e)).1 = (bPart l e (bPoint l e)).2 then bPart l (bPart l e (bPoint l e)).1 (bMark l (bPart l e (bPoint l e)).1) else bPart l e (bPoint l e)
def pfx (l:List Int) (p:Nat):Nat × Nat × Int:=
 if bWhole l (pfxFirst l p) = pfxFirst l p then (p,pfxFirst l p,0)
 else ((pfxR l (bWhole l (pfxFirst l p))).1,(pfxR l (bWhole l (pfxFirst l p))).2,if (pfxR l (bWhole l (pfxFirst l p))).1 > bWhole l (pfxFirst l p) then 2 else 1)
def stepZ (st c:Int):Int:=
 if st = 0 ∨ st = 1 then (if c = 45 ∧ st = 0 then 1 else if c = 48 then 2 else if digB c then 3 else -1)
 else if st = 2 ∨ st = 3 then (if digB c ∧ st = 3 then 3 else if c = 46 then 4 else if c = 101 ∨ c = 69 then 6 else -1)
 else if st = 4 then (if digB c then 5 else -1)
 else if st = 5 then (if digB c then 5 else if c = 101 ∨ c = 69 then 6 else -1)
 else if st = 6 then (if digB c then 8 else if c = 43 ∨ c = 45 then 7 else -1)
 else if st = 7 ∨ st = 8 then (if digB c then 8 else -1)
 else -1
def formZ (st:Int):Int:=if st = 2 ∨ st = 3 then 1 else if st = 5 ∨ st = 8 then 2 else 0
def runF (l:List Int):Nat → Int → Nat → Int → Nat → Nat × Nat × Int
 | 0,_,e,f,_ => (e,l.length,f)
 | m + 1,st,e,f,k =>
  if stepZ st (l.getD k 0) < 0 then (e,k,f)
  else if formZ (stepZ st (l.getD k 0)) ≠ 0 then runF l m (stepZ st (l.getD k 0)) (k + 1) (formZ (stepZ st (l.getD k 0))) (k + 1)
  else runF l m (stepZ st (l.getD k 0)) e f (k + 1)
def run (l:List Int) (st:Int) (e:Nat) (f:Int) (k:Nat):Nat × Nat × Int:=runF l (l.length - k) st e f k
theorem run_end {l:List Int} {k:Nat} (h:¬ k < l.length) (st:Int) (e:Nat) (f:Int):run l st e f k = (e,l.length,f):=by
 unfold run
 rw [show l.length - k = 0 by omega]
 rfl
theorem run_bad {l:List Int} {k:Nat} (h:k < l.length) {st:Int} (hs:stepZ st (l.getD k 0) < 0) (e:Nat) (f:Int):run l st e f k = (e,k,f):=by
 unfold run
 rw [show l.length - k = (l.length - (k + 1)) + 1 by omega]
 simp only [runF,hs,if_true]
theorem run_go {l:List Int} {k:Nat} (h:k < l.length) {st s':Int} (hs:stepZ st (l.getD k 0) = s') (h0:0 ≤ s') (hf:formZ s' = 0) (e:Nat) (f:Int):run l st e f k = run l s' e f (k + 1):=by
 unfold run
 rw [show l.length - k = (l.length - (k + 1)) + 1 by omega]
 simp only [runF,hs,hf,ne_eq,not_true,if_false,show ¬ s' < 0 by omega]
theorem run_take {l:List Int} {k:Nat} (h:k < l.length) {st s':Int} (hs:stepZ st (l.getD k 0) = s') (h0:0 ≤ s') (hf:formZ s' ≠ 0) (e:Nat) (f:Int):run l st e f k = run l s' (k + 1) (formZ s') (k + 1):=by
 unfold run
 rw [show l.length - k = (l.length - (k + 1)) + 1 by omega]
 simp only [runF,hs,ne_eq,hf,not_false_eq_true,if_true,show ¬ s' < 0 by omega,if_false]
theorem isAt_of {l:List Int} {k:Nat} (h:k < l.length) (c:Int):isAt l k c = (l.getD k 0 == c):=by simp [-List.getD_eq_getElem?_getD,isAt,h]
theorem digAt_of {l:List Int} {k:Nat} (h:k < l.length):digAt l k = digB (l.getD k 0):=by simp [-List.getD_eq_getElem?_getD,digAt,h]
theorem isAt_not {l:List Int} {k:Nat} (h:¬ k < l.length) (c:Int):isAt l k c = false:=by simp [-List.getD_eq_getElem?_getD,isAt,h]
theorem digAt_not {l:List Int} {k:Nat} (h:¬ k < l.length):digAt l k = false:=by simp [-List.getD_eq_getElem?_getD,digAt,h]
theorem digB_not {c:Int} (h:digB c = true):c ≠ 45 ∧ c ≠ 43 ∧ c ≠ 46 ∧ c ≠ 101 ∧ c ≠ 69:=by
 unfold digB at h
 simp only [Bool.and_eq_true,decide_eq_true_eq] at h
 omega
theorem run8 (l:List Int) (k:Nat) (hk:k ≤ l.length):run l 8 k 2 k = (digs l k,digs l k,2):=by
 generalize hm:l.length - k = m
 induction m generalizing k with
 | zero =>
  rw [run_end (by omega),digs_no (digAt_not (by omega)),show k = l.length by omega]
 | succ m ih =>
  have hl:k < l.length:=by omega
  cases h:digAt l k
  ·rw [digs_no h,run_bad hl]
   rw [digAt_of hl] at h
   simp [-List.getD_eq_getElem?_getD,stepZ,h]
  ·rw [digs_yes h,← ih (k + 1) (by omega) (by omega)]
   rw [digAt_of hl] at h
   exact run_take (s':=8) hl (by simp [-List.getD_eq_getElem?_getD,stepZ,h]) (by omega) (by decide) _ _
theorem run7 (l:List Int) (k:Nat) (hk:k ≤ l.length) (e:Nat) (f:Int):run l 7 e f k = if digAt l k then (digs l k,digs l k,2) else (e,k,f):=by
 by_cases hl:k < l.length
 ·cases h:digAt l k
  ·rw [run_bad hl]
   ·rfl
   ·rw [digAt_of hl] at h;simp [-List.getD_eq_getElem?_getD,stepZ,h]
  ·rw [digs_yes h,← run8 l (k + 1) (by omega)]
   rw [digAt_of hl] at h
   exact run_take (s':=8) hl (by simp [-List.getD_eq_getElem?_getD,stepZ,h]) (by omega) (by decide) _ _
 ·rw [run_end hl,digAt_not hl,show k = l.length by omega];rfl
def after6 (l:List Int) (k e:Nat) (f:Int):Nat × Nat × Int:=
 if digAt l k then (digs l k,digs l k,2) else if isAt l k 43 = true ∨ isAt l k 45 = true then (if digAt l (k + 1) then (digs l (k + 1),digs l (k + 1),2) else (e,k + 1,f)) else (e,k,f)
theorem run6 (l:List Int) (k:Nat) (hk:k ≤ l.length) (e:Nat) (f:Int):run l 6 e f k = after6 l k e f:=by
 unfold after6
 by_cases hl:k < l.length
 ·cases h:digAt l k
  ·by_cases hs:isAt l k 43 = true ∨ isAt l k 45 = true
   ·rw [if_neg (by simp),if_pos hs,← run7 l (k + 1) (by omega) e f]
    rw [isAt_of hl,isAt_of hl] at hs
    rw [digAt_of hl] at h
    refine run_go (s':=7) hl ?_ (by omega) (by decide) _ _
    simp only [beq_iff_eq] at hs
    simp [-List.getD_eq_getElem?_getD,stepZ,h,hs]
   ·rw [if_neg (by simp),if_neg hs,run_bad hl]
    rw [isAt_of hl,isAt_of hl] at hs
    rw [digAt_of hl] at h
    simp only [beq_iff_eq] at hs
    simp [-List.getD_eq_getElem?_getD,stepZ,h,hs]
  ·rw [if_pos rfl,digs_yes h,← run8 l (k + 1) (by omega)]
   rw [digAt_of hl] at h
   exact run_take (s':=8) hl (by simp [-List.getD_eq_getElem?_getD,stepZ,h]) (by omega) (by decide) _ _
 ·rw [run_end hl,digAt_not hl,isAt_not hl,isAt_not hl,show k = l.length by omega];simp
def isE (l:List Int) (k:Nat):Bool:=isAt l k 101 || isAt l k 69
theorem isE_of {l:List Int} {k:Nat} (h:k < l.length):isE l k = true ↔ (l.getD k 0 = 101 ∨ l.getD k 0 = 69):=by
 unfold isE
 rw [isAt_of h,isAt_of h]
 simp only [Bool.or_eq_true,beq_iff_eq]
theorem isE_not {l:List Int} {k:Nat} (h:¬ k < l.length):isE l k = false:=by simp [isE,isAt_not h]
def afterE (l:List Int) (d:Nat) (f:Int):Nat × Nat × Int:=if isE l d then after6 l (d + 1) d f else (d,d,f)
theorem run5 (l:List Int) (k:Nat) (hk:k ≤ l.length):run l 5 k 2 k = afterE l (digs l k) 2:=by
 generalize hm:l.length - k = m
 induction m generalizing k with
 | zero =>
  rw [run_end (by omega),digs_no (digAt_not (by omega))]
  unfold afterE
  rw [isE_not (by omega),show k = l.length by omega];rfl
 | succ m ih =>
  have hl:k < l.length:=by omega
  cases h:digAt l k
  ·rw [digs_no h]
   unfold afterE
   rw [digAt_of hl] at h
   cases he:isE l k
   ·rw [run_bad hl]
    ·rfl
    ·have:¬ (l.getD k 0 = 101 ∨ l.getD k 0 = 69):=fun h => (by simp [he]:¬ isE l k = true) ((isE_of hl).2 h)
     simp [-List.getD_eq_getElem?_getD,stepZ,h,this]
   ·rw [if_pos rfl,← run6 l (k + 1) (by omega)]
    refine run_go (s':=6) hl ?_ (by omega) (by decide) _ _
    have:=(isE_of hl).1 he
    simp [-List.getD_eq_getElem?_getD,stepZ,h,this]
  ·rw [digs_yes h,← ih (k + 1) (by omega) (by omega)]
   rw [digAt_of hl] at h
   exact run_take (s':=5) hl (by simp [-List.getD_eq_getElem?_getD,stepZ,h]) (by omega) (by decide) _ _
theorem run4 (l:List Int) (k:Nat) (hk:k ≤ l.length) (e:Nat) (f:Int):run l 4 e f k = if digAt l k then afterE l (digs l k) 2 else (e,k,f):=by
 by_cases hl:k < l.length
 ·cases h:digAt l k
  ·rw [run_bad hl]
   ·rfl
   ·rw [digAt_of hl] at h;simp [-List.getD_eq_getElem?_getD,stepZ,h]
  ·rw [if_pos rfl,digs_yes h,← run5 l (k + 1) (by omega)]
   rw [digAt_of hl] at h
   exact run_take (s':=5) hl (by simp [-List.getD_eq_getElem?_getD,stepZ,h]) (by omega) (by decide) _ _
 ·rw [run_end hl,digAt_not hl,show k = l.length by omega];rfl
def tailZ (l:List Int) (d:Nat):Nat × Nat × Int:=if isAt l d 46 then (if digAt l (d + 1) then afterE l (digs l (d + 1)) 2 else (d,d + 1,1)) else afterE l d 1
theorem run_tail (l:List Int) (k:Nat) (hk:k ≤ l.length) (st:Int) (hst:st = 2 ∨ (st = 3 ∧ digAt l k = false)):run l st k 1 k = tailZ l k:=by
 unfold tailZ
 by_cases hl:k < l.length
 ·have hnd:¬ (digB (l.getD k 0) = true ∧ st = 3):=by
   rcases hst with rfl | ⟨rfl,h⟩
   ·omega
   ·rw [digAt_of hl] at h;simp only [h];simp
  have hstep:stepZ st (l.getD k 0) = if l.getD k 0 = 46 then 4 else if l.getD k 0 = 101 ∨ l.getD k 0 = 69 then 6 else -1:=by
   unfold stepZ
   rw [if_neg (by omega),if_pos (by omega),if_neg hnd]
  cases h:isAt l k 46
  ·rw [isAt_of hl] at h
   have h46:¬ l.getD k 0 = 46:=by simpa [-List.getD_eq_getElem?_getD] using h
   rw [if_neg h46] at hstep
   unfold afterE
   cases he:isE l k
   ·have h2:=fun h => (by simp [he]:¬ isE l k = true) ((isE_of hl).2 h)
    rw [if_neg h2] at hstep
    rw [run_bad hl (by omega)]
    rfl
   ·have h2:=(isE_of hl).1 he
    rw [if_pos h2] at hstep
    rw [if_neg (by simp),if_pos rfl,← run6 l (k + 1) (by omega)]
    exact run_go (s':=6) hl hstep (by omega) (by decide) _ _
  ·rw [isAt_of hl] at h
   have h46:l.getD k 0 = 46:=by simpa [-List.getD_eq_getElem?_getD] using h
   rw [if_pos h46] at hstep
   rw [if_pos rfl,← run4 l (k + 1) (by omega)]
   exact run_go (s':=4) hl hstep (by omega) (by decide) _ _
 ·rw [run_end hl,isAt_not hl]
  have e:afterE l k 1 = (k,k,1):=by unfold afterE;rw [isE_not hl];rfl
  rw [e,show k = l.length by omega];rfl
theorem run3 (l:List Int) (k:Nat) (hk:k ≤ l.length):run l 3 k 1 k = tailZ l (digs l k):=by
 generalize hm:l.length - k = m
 induction m generalizing k with
 | zero =>
  have hd:digAt l k = false:=digAt_not (by omega)
  rw [digs_no hd]
  exact run_tail l k hk 3 (.inr ⟨rfl,hd⟩)
 | succ m ih =>
  have hl:k < l.length:=by omega
  cases h:digAt l k
  ·rw [digs_no h]
   exact run_tail l k hk 3 (.inr ⟨rfl,h⟩)
  ·rw [digs_yes h,← ih (k + 1) (by omega) (by omega)]
   rw [digAt_of hl] at h
   exact run_take (s':=3) hl (by simp [-List.getD_eq_getElem?_getD,stepZ,h]) (by omega) (by decide) _ _
def wholeZ (l:List Int) (p k:Nat):Nat × Nat × Int:=if isAt l k 48 then tailZ l (k + 1) else if digAt l k then tailZ l (digs l k) else (p,k,0)
theorem run_whole (l:List Int) (k:Nat) (hk:k ≤ l.length) (st:Int) (hst:st = 1 ∨ (st = 0 ∧ isAt l k 45 = false)) (p:Nat):run l st p 0 k = wholeZ l p k:=by
 unfold wholeZ
 by_cases hl:k < l.length
 ·have hstep:stepZ st (l.getD k 0) = if l.getD k 0 = 48 then 2 else if digB (l.getD k 0) then 3 else -1:=by
   unfold stepZ
   rw [if_pos (by omega),if_neg]
   rintro ⟨h1,h2⟩
   rcases hst with rfl | ⟨rfl,h⟩
   ·omega
   ·rw [isAt_of hl] at h;simp [-List.getD_eq_getElem?_getD] at h;exact h h1
  cases h:isAt l k 48
  ·rw [isAt_of hl] at h
   rw [if_neg (by simpa [-List.getD_eq_getElem?_getD] using h)] at hstep
   cases hd:digAt l k
   ·rw [digAt_of hl] at hd
    rw [hd,if_neg (by simp)] at hstep
    rw [run_bad hl (by omega)];rfl
   ·rw [if_neg (by simp),if_pos rfl,digs_yes hd,← run3 l (k + 1) (by omega)]
    rw [digAt_of hl] at hd
    rw [hd,if_pos rfl] at hstep
    exact run_take (s':=3) hl hstep (by omega) (by decide) _ _
  ·rw [isAt_of hl] at h
   rw [if_pos (by simpa [-List.getD_eq_getElem?_getD] using h)] at hstep
   rw [if_pos rfl,← run_tail l (k + 1) (by omega) 2 (.inl rfl)]
   exact run_take (s':=2) hl hstep (by omega) (by decide) _ _
 ·rw [run_end hl,isAt_not hl,digAt_not hl,show k = l.length by omega];rfl
theorem run0 (l:List Int) (p:Nat) (hp:p ≤ l.length):run l 0 p 0 p = wholeZ l p (pfxFirst l p):=by
 unfold pfxFirst
 cases h:isAt l p 45
 ·exact run_whole l p hp 0 (.inr ⟨rfl,h⟩) p
 ·have hl:=isAt_lt h
  rw [if_pos rfl,← run_whole l (p + 1) (by omega) 1 (.inl rfl) p]
  rw [isAt_of hl] at h
  exact run_go (s':=1) hl (by simp [-List.getD_eq_getElem?_getD] at h;simp [-List.getD_eq_getElem?_getD,stepZ,h]) (by omega) (by decide) _ _
theorem bPart_of (l:List Int) (p first:Nat) (h:p < first):bPart l p first = if digAt l first then (digs l first,digs l first) else (p,first):=by
 unfold bPart
 rw [if_neg (by omega)]
 cases hd:digAt l first
 ·rw [digs_no hd];simp
 ·have:=digs_pos hd
  rw [if_neg (by omega)];rfl
theorem bMark_e (l:List Int) (d:Nat):bMark l d = if isE l d then (if isAt l (d + 1) 43 = true ∨ isAt l (d + 1) 45 = true then d + 2 else d + 1) else d:=by
 unfold bMark isE
 cases h1:isAt l d 101 <;> cases h2:isAt l d 69 <;> simp
theorem part_mark (l:List Int) (d:Nat) (f:Int):afterE l d f = ((bPart l d (bMark l d)).1,(bPart l d (bMark l d)).2,if (bPart l d (bMark l d)).1 > d then 2 else f):=by
 rw [bMark_e]
 unfold afterE after6
 cases he:isE l d
 ·simp [bPart]
 ·simp only [if_true]
  cases hd:digAt l (d + 1)
  ·by_cases hs:isAt l (d + 1) 43 = true ∨ isAt l (d + 1) 45 = true
   ·rw [if_pos hs,if_pos hs,bPart_of l d (d + 2) (by omega)]
    cases hd2:digAt l (d + 2)
    ·simp
    ·have:=digs_pos hd2
     simp [show d < digs l (d + 2) by omega]
   ·rw [if_neg hs,if_neg hs,bPart_of l d (d + 1) (by omega),hd]
    simp
  ·have hns:¬ (isAt l (d + 1) 43 = true ∨ isAt l (d + 1) 45 = true):=by
    have hl:=digAt_lt hd
    rw [digAt_of hl] at hd
    rw [isAt_of hl,isAt_of hl]
    have:=digB_not hd
    simp only [beq_iff_eq]
    omega
   have:=digs_pos hd
   rw [if_neg hns,if_neg hns,bPart_of l d (d + 1) (by omega),hd]
   simp [show d < digs l (d + 1) by omega]
theorem part_tail (l:List Int) (e:Nat):tailZ l e = ((pfxR l e).1,(pfxR l e).2,if (pfxR l e).1 > e then 2 else 1):=by
 unfold tailZ pfxR bPoint
 cases h:isAt l e 46
 ·have e1:bPart l e e = (e,e):=by simp [bPart]
  simp only [e1,if_true,if_false,Bool.false_eq_true]
  exact part_mark l e 1
 ·simp only [if_true]
  rw [bPart_of l e (e + 1) (by omega)]
  cases hd:digAt l (e + 1)
  ·simp
  ·have:=digs_pos hd
   simp only [if_true]
   rw [part_mark]
   have h2:digs l (e + 1) ≤ (bPart l (digs l (e + 1)) (bMark l (digs l (e + 1)))).1:=by
    unfold bPart
    repeat' split
    ·exact Nat.le_refl _
    ·exact Nat.le_refl _
    ·rename_i h3 h4
     have h5:=(digs_le l (bMark l (digs l (e + 1)))).1
     have:digs l (e + 1) ≤ bMark l (digs l (e + 1)):=by
      unfold bMark
      repeat' split
      all_goals omega
     simp only
     omega
   have h3:(bPart l (digs l (e + 1)) (bMark l (digs l (e + 1)))).1 > e:=by omega
   rw [if_pos h3]
   split <;> rfl
theorem pfx_run (l:List Int) (p:Nat) (hp:p ≤ l.length):run l 0 p 0 p = pfx l p:=by
 rw [run0 l p hp]
 unfold wholeZ pfx bWhole
 cases h:isAt l (pfxFirst l p) 48
 ·simp only [Bool.false_eq_true,if_false]
  cases hd:digAt l (pfxFirst l p)
  ·rw [digs_no hd];simp
  ·have:=digs_pos hd
   rw [if_neg (by omega:¬ digs l (pfxFirst l p) = pfxFirst l p),part_tail];rfl
 ·simp only [if_true]
  rw [if_neg (by omega),part_tail]
theorem whole_le {l:List Int} {p:Nat} (h:p ≤ l.length):bWhole l p ≤ l.length:=by
 unfold bWhole
 split
 ·rename_i e;exact isAt_lt e
 ·exact (digs_le l p).2 h
theorem point_le {l:List Int} {p:Nat} (h:p ≤ l.length):bPoint l p ≤ l.length:=by
 unfold bPoint
 split
 ·rename_i e;exact isAt_lt e
 ·exact h
theorem mark_le {l:List Int} {p:Nat} (h:p ≤ l.length):bMark l p ≤ l.length:=by
 unfold bMark
 split
 ·exact h
 ·rename_i e
  split
  ·rename_i e2
   rcases e2 with e2 | e2
   ·exact isAt_lt e2
   ·exact isAt_lt e2
  ·cases h1:isAt l p 101
   ·cases h2:isAt l p 69
    ·exact absurd ⟨h1,h2⟩ e
    ·exact isAt_lt h2
   ·exact isAt_lt h1
theorem part_le {l:List Int} {p f:Nat} (h:p ≤ l.length) (hf:f ≤ l.length):(bPart l p f).1 ≤ l.length ∧ (bPart l p f).2 ≤ l.length:=by
 unfold bPart
 have:=(digs_le l f).2 hf
 repeat' split
 all_goals exact ⟨by simp only;omega,by simp only;omega⟩
theorem pfx_le (l:List Int) (p:Nat) (hp:p ≤ l.length):(pfx l p).1 ≤ l.length ∧ (pfx l p).2.1 ≤ l.length:=by
 rw [← pfx_run l p hp]
 unfold run
 generalize hm:l.length - p = m
 have:∀ (m:Nat) (st:Int) (e:Nat) (f:Int) (k:Nat),e ≤ l.length → k + m ≤ l.length → (runF l m st e f k).1 ≤ l.length ∧ (runF l m st e f k).2.1 ≤ l.length:=by
  intro m
  induction m with
  | zero => intro st e f k he hk;exact ⟨he,Nat.le_refl _⟩
  | succ m ih =>
   intro st e f k he hk
   simp only [runF]
   repeat' split
   ·exact ⟨he,by simp only;omega⟩
   ·exact ih _ _ _ _ (by omega) (by omega)
   ·exact ih _ _ _ _ he (by omega)
 exact this m 0 p 0 p hp (by omega)
end Go.Proofs.YtepmbmbnlmbhhaaGreat.mem
namespace Go.Proofs.YtepmbmbnlmbhhaaGreat.lx
open mem (pfx digB pfx_le)
def cAt (l:List Int) (i:Nat):Int:=if i < l.length then l.getD i 0 else -1
def blB (c:Int):Bool:=decide (c = 9 ∨ c = 10 ∨ c = 13 ∨ c = 32 ∨ c = 44 ∨ c = 65279)
def soB (c:Int):Bool:=decide (c = 9 ∨ c = 10 ∨ c = 13 ∨ (32 ≤ c ∧ c ≤ 55295) ∨ (57344 ≤ c ∧ c ≤ 65535))
def nsB (c:Int):Bool:=decide ((65 ≤ c ∧ c ≤ 90) ∨ (97 ≤ c ∧ c ≤ 122) ∨ c = 95)
def nrB (c:Int):Bool:=decide (((65 ≤ c ∧ c ≤ 90) ∨ (97 ≤ c ∧ c ≤ 122) ∨ c = 95) ∨ (48 ≤ c ∧ c ≤ 57))
def puL:List Int:=[33,36,38,40,41,58,61,64,91,93,123,124,125]
def puB (c:Int):Bool:=puL.contains c
theorem cAt_end {l:List Int} {i:Nat} (h:l.length ≤ i):cAt l i = -1:=if_neg (by omega)
theorem cAt_in {l:List Int} {i:Nat} (h:i < l.length):cAt l i = l.getD i 0:=if_pos h
theorem cAt_lt {l:List Int} {i:Nat} {c:Int} (h:cAt l i = c) (hc:c ≠ -1):i < l.length:=by
 rcases Nat.lt_or_ge i l.length with h1 | h1
 ·exact h1
 ·rw [cAt_end h1] at h;exact absurd h.symm hc
def ignF (l:List Int):Nat → Bool → Nat → Nat
 | 0,_,i => i
 | f + 1,false,i => if blB (cAt l i) then ignF l f false (i + 1) else if cAt l i = 35 then ignF l f true (i + 1) else i
 | f + 1,true,i => if cAt l i = 10 ∨ cAt l i = 13 then ignF l f false (i + 1) else if soB (cAt l i) then ignF l f true (i + 1) else i
def ign (l:List Int) (b:Bool) (i:Nat):Nat:=ignF l (l.length + 1 - i) b i
theorem ign_f (l:List Int) (i:Nat):ign l false i = if blB (cAt l i) then ign l false (i + 1) else if cAt l i = 35 then ign l true (i + 1) else i:=by
 unfold ign
 rcases Nat.lt_or_ge i l.length with h | h
 ·rw [show l.length + 1 - i = (l.length + 1 - (i + 1)) + 1 by omega];rfl
 ·rw [cAt_end h]
  cases l.length + 1 - i with
  | zero => simp [ignF,blB]
  | succ f => simp [ignF,blB,cAt_end h]
theorem ign_t (l:List Int) (i:Nat):ign l true i = if cAt l i = 10 ∨ cAt l i = 13 then ign l false (i + 1) else if soB (cAt l i) then ign l true (i + 1) else i:=by
 unfold ign
 rcases Nat.lt_or_ge i l.length with h | h
 ·rw [show l.length + 1 - i = (l.length + 1 - (i + 1)) + 1 by omega];rfl
 ·rw [cAt_end h]
  cases l.length + 1 - i with
  | zero => simp [ignF,soB]
  | succ f => simp [ignF,soB,cAt_end h]
theorem ignF_le (l:List Int) (f:Nat) (b:Bool) (i:Nat):i ≤ ignF l f b i ∧ (i ≤ l.length → ignF l f b i ≤ l.length):=by
 induction f generalizing b i with
 | zero => simp [ignF]
 | succ f ih =>
  have hl:∀ c:Int,cAt l i = c → c ≠ -1 → i + 1 ≤ l.length:=fun c h hc => cAt_lt h hc
  have a1:=ih false (i + 1)
  have a2:=ih true (i + 1)
  cases b <;> simp only [ignF]
  ·split
   ·rename_i h
    have:=hl _ rfl (fun e => by rw [e] at h;simp [blB] at h)
    omega
   ·split
    ·rename_i h
     have:=hl _ h (by decide)
     omega
    ·omega
  ·split
   ·rename_i h
    have:=hl _ rfl (fun e => by rw [e] at h;simp at h)
    omega
   ·split
    ·rename_i h
     have:=hl _ rfl (fun e => by rw [e] at h;simp [soB] at h)
     omega
    ·omega
theorem ign_le (l:List Int) (b:Bool) (i:Nat):i ≤ ign l b i ∧ (i ≤ l.length → ign l b i ≤ l.length):=ignF_le l _ b i
def namF (l:List Int):Nat → Nat → Nat
 | 0,i => i
 | f + 1,i => if nrB (cAt l i) then namF l f (i + 1) else i
def nam (l:List Int) (i:Nat):Nat:=namF l (l.length + 1 - i) i
theorem nam_eq (l:List Int) (i:Nat):nam l i = if nrB (cAt l i) then nam l (i + 1) else i:=by
 unfold nam
 rcases Nat.lt_or_ge i l.length with h | h
 ·rw [show l.length + 1 - i = (l.length + 1 - (i + 1)) + 1 by omega];rfl
 ·rw [cAt_end h]
  cases l.length + 1 - i with
  | zero => simp [namF,nrB]
  | succ f => simp [namF,nrB,cAt_end h]
theorem namF_le (l:List Int) (f:Nat) (i:Nat):i ≤ namF l f i ∧ (i ≤ l.length → namF l f i ≤ l.length):=by
 induction f generalizing i with
 | zero => simp [namF]
 | succ f ih =>
  have a1:=ih (i + 1)
  simp only [namF]
  split
  ·rename_i h
   have:=cAt_lt (l:=l) (i:=i) rfl (fun e => by rw [e] at h;simp [nrB] at h)
   omega
  ·omega
theorem nam_le (l:List Int) (i:Nat):i ≤ nam l i ∧ (i ≤ l.length → nam l i ≤ l.length):=namF_le l _ i
def num (l:List Int) (i:Nat):Int × Nat:=
 if cAt l (pfx l i).1 = 46 ∨ nrB (cAt l (pfx l i).1) then (1,i) else if (pfx l i).2.2 = 1 then (4,(pfx l i).1) else if (pfx l i).2.2 = 2 then (5,(pfx l i).1) else (1,i)
theorem bPart_ge (l:List Int) (p f:Nat) (h:p ≤ f):p ≤ (mem.bPart l p f).1:=by
 unfold mem.bPart
 split
 ·exact Nat.le_refl _
 ·split
  ·exact Nat.le_refl _
  ·exact Nat.le_trans h (mem.digs_le l f).1
theorem pfx_pos (l:List Int) (p:Nat):(pfx l p).2.2 = 0 ∨ p < (pfx l p).1:=by
 unfold pfx
 split
 ·exact .inl rfl
 ·rename_i h
  right
  have h1:p ≤ mem.pfxFirst l p:=by unfold mem.pfxFirst;split <;> omega
  have h2:mem.pfxFirst l p ≤ mem.bWhole l (mem.pfxFirst l p):=by
   unfold mem.bWhole
   split
   ·omega
   ·exact (mem.digs_le l _).1
  have h3:∀ e,e ≤ (mem.pfxR l e).1:=fun e => by
   have hp:∀ q,q ≤ mem.bPoint l q:=fun q => by unfold mem.bPoint;split <;> omega
   have hm:∀ q,q ≤ mem.bMark l q:=fun q => by unfold mem.bMark;split;omega;split <;> omega
   have h4:=bPart_ge l e (mem.bPoint l e) (hp e)
   unfold mem.pfxR
   split
   ·exact Nat.le_trans h4 (bPart_ge l _ _ (hm _))
   ·exact h4
  have:=h3 (mem.bWhole l (mem.pfxFirst l p))
  show p < (mem.pfxR l (mem.bWhole l (mem.pfxFirst l p))).1
  omega
theorem num_le (l:List Int) (i:Nat) (hi:i ≤ l.length):i ≤ (num l i).2 ∧ (num l i).2 ≤ l.length ∧ ((num l i).1 = 1 ∨ i < (num l i).2) ∧ (num l i).1 ≠ 0:=by
 have h1:=pfx_le l i hi
 have h2:=pfx_pos l i
 unfold num
 split
 ·exact ⟨Nat.le_refl _,hi,.inl rfl,by simp⟩
 ·split
  ·rename_i h
   have:i < (pfx l i).1:=by rcases h2 with h2 | h2;rw [h] at h2;cases h2;exact h2
   exact ⟨by omega,h1.1,.inr this,by simp⟩
  ·split
   ·rename_i h
    have:i < (pfx l i).1:=by rcases h2 with h2 | h2;rw [h] at h2;cases h2;exact h2
    exact ⟨by omega,h1.1,.inr this,by simp⟩
   ·exact ⟨Nat.le_refl _,hi,.inl rfl,by simp⟩
def rd (l:List Int) (cl:Bool) (i:Nat):Int × Nat:=
 if i = l.length ∧ cl = true then (0,i)
 else if cAt l i = 46 then (if cAt l (i + 1) = 46 ∧ cAt l (i + 2) = 46 then (2,i + 3) else (1,i))
 else if puB (cAt l i) then (2,i + 1)
 else if nsB (cAt l i) then (3,nam l (i + 1))
 else if cAt l i = 45 ∨ digB (cAt l i) then num l i
 else (1,i)
theorem rd_le (l:List Int) (cl:Bool) (i:Nat) (hi:i ≤ l.length):i ≤ (rd l cl i).2 ∧ (rd l cl i).2 ≤ l.length ∧ ((rd l cl i).1 = 0 ∨ (rd l cl i).1 = 1 ∨ i < (rd l cl i).2):=by
 unfold rd
 split
 ·exact ⟨Nat.le_refl _,hi,.inl rfl⟩
 split
 ·split
  ·rename_i h
   have:=cAt_lt h.2 (by decide)
   exact ⟨by show i ≤ i + 3;omega,this,.inr (.inr (by show i < i + 3;omega))⟩
  ·exact ⟨Nat.le_refl _,hi,.inr (.inl rfl)⟩
 split
 ·rename_i h
  have:=cAt_lt (l:=l) (i:=i) rfl (fun e => by rw [e] at h;revert h;decide)
  exact ⟨Nat.le_succ _,this,.inr (.inr (Nat.lt_succ_self _))⟩
 split
 ·rename_i h
  have:=cAt_lt (l:=l) (i:=i) rfl (fun e => by rw [e] at h;revert h;decide)
  have h2:=nam_le l (i + 1)
  exact ⟨by show i ≤ nam l (i + 1);omega,h2.2 this,.inr (.inr h2.1)⟩
 split
 ·have:=num_le l i hi
  exact ⟨this.1,this.2.1,by rcases this.2.2.1 with h | h;exact .inr (.inl h);exact .inr (.inr h)⟩
 ·exact ⟨Nat.le_refl _,hi,.inr (.inl rfl)⟩
end Go.Proofs.YtepmbmbnlmbhhaaGreat.lx
namespace Go.Proofs.YtepmbmbnlmbhhaaGreat.mem
open Go.ChangeShapes Go.WideShapes Go.ChangeAt Go.RowKit
open ints (Hi uh)
theorem is_i (a:Option Addr) (n c:Nat) (l:List Int) (p:Nat) (x:Int) (w:World) (h:Row .i32 w a n c l) (hn:n ≤ 4611686018427387904) (hp:p ≤ 4611686018427387904) :
  Calls Tryz.prog 153 #[.slice a n c,.int .i64 (p:Int),.int .i32 x] w fun e w' => e = .returned (.bool (isAt l p x)) ∧ Below w.heap.size w w':=by
 by_cases hlt:p < n
 ·rcases h.at_ with h0 | ⟨b,off,rfl,hbw,hcell⟩
  ·omega
  have c1:=hcell p hlt
  have HI:=Hi (show isAt l p x = (l.getD p 0 == x) from isAt_of (by rw [h.len];exact hlt) x)
  have pi:(p:Int) < (n:Int):=by omega
  rw [uh HI]
  generalize l.getD p 0 = y at *
  clear hcell
  go_enter Tryz.func153,Tryz.ntmps153
  cases e1:(y == x)
  all_goals
   go_wp2
   go_ret
   exact ⟨rfl,Below.refl _ _⟩
 ·have HI:=Hi (show isAt l p x = false from isAt_not (by rw [h.len];exact hlt) x)
  have pi:¬ (p:Int) < (n:Int):=by omega
  rw [uh HI]
  go_enter Tryz.func153,Tryz.ntmps153
  go_wp2
  go_ret
  exact ⟨rfl,Below.refl _ _⟩
theorem digs_i (a:Option Addr) (n c:Nat) (l:List Int) (p:Nat) (w:World) (h:Row .i32 w a n c l) (hn:n ≤ 4611686018427387904) (hp:p ≤ 4611686018427387904) :
  Calls Tryz.prog 171 #[.slice a n c,.int .i64 (p:Int)] w fun e w' => e = .returned (.int .i64 (digs l p:Nat)) ∧ Below w.heap.size w w':=by
 go_enter Tryz.func171,Tryz.ntmps171
 go_wp2
 go_loopw [1] (fun v wr => ∃ k:Nat,k ≤ 4611686018427387904 ∧ v = .int .i64 k ∧ digs l p = digs l k ∧ Below w.heap.size w wr) (fun v _ => n - (intOf v).toNat)
 case atStart => exact ⟨p,hp,rfl,rfl,Below.refl _ _⟩
 case round =>
  obtain ⟨k,hk,rfl,heq,hbel⟩:=hrel
  have HE:=Hi heq
  clear heq
  by_cases hlt:k < n
  ·rcases h.at_ with h0 | ⟨b,off,rfl,hbw,hcell⟩
   ·omega
   have c1:=(hbel.cell (p:=⟨b,off + k,none⟩) hbw).trans (hcell k hlt)
   have HD:=Hi (show digAt l k = digB (l.getD k 0) from digAt_of (by rw [h.len];exact hlt))
   have ki:(k:Int) < (n:Int):=by omega
   generalize l.getD k 0 = y at *
   clear hcell
   by_cases h1:48 ≤ y
   ·by_cases h2:y ≤ 57
    ·have hd:=Hi (show digAt l k = true from by rw [uh HD];simp [digB,h1,h2])
     go_wp2
     go_roundw
     case rel => exact ⟨k + 1,by omega,by go_num,by rw [uh HE,digs_yes (uh hd)],hbel⟩
     case measure => simp [intOf];omega
    ·have hd:=Hi (show digAt l k = false from by rw [uh HD];simp [digB,h1,h2])
     go_wp2
     go_ret
     rw [uh HE,digs_no (uh hd)]
     exact ⟨rfl,hbel⟩
   ·have hd:=Hi (show digAt l k = false from by rw [uh HD];simp [digB,h1])
    go_wp2
    go_ret
    rw [uh HE,digs_no (uh hd)]
    exact ⟨rfl,hbel⟩
  ·have ki:¬ (k:Int) < (n:Int):=by omega
   have hd:=Hi (show digAt l k = false from digAt_not (by rw [h.len];exact hlt))
   go_wp2
   go_ret
   rw [uh HE,digs_no (uh hd)]
   exact ⟨rfl,hbel⟩
theorem isq_i (a:Option Addr) (n c:Nat) (l:List Int) (p:Nat) (q:Int) (hq:q = (p:Int)) (x:Int) (w:World) (h:Row .i32 w a n c l) (hn:n ≤ 4611686018427387904) (hp:p ≤ 4611686018427387904) :
  Calls Tryz.prog 153 #[.slice a n c,.int .i64 q,.int .i32 x] w fun e w' => e = .returned (.bool (isAt l p x)) ∧ Below w.heap.size w w':=by
 subst hq;exact is_i a n c l p x w h hn hp
theorem point_i (a:Option Addr) (n c:Nat) (l:List Int) (p:Nat) (w:World) (h:Row .i32 w a n c l) (hn:n ≤ 4611686018427387904) (hp:p ≤ 4611686018427387904) :
  Calls Tryz.prog 156 #[.slice a n c,.int .i64 (p:Int)] w fun e w' => e = .returned (.int .i64 (bPoint l p:Nat)) ∧ Below w.heap.size w w':=by
 go_enter Tryz.func156,Tryz.ntmps156
 go_wp2_with fail
 refine (is_i a n c l p 46 w h hn hp).mono ?_
 rintro e w1 ⟨rfl,b1⟩
 cases e1:isAt l p 46
 all_goals
  go_wp2
  go_ret
  exact ⟨by unfold bPoint;rw [e1];go_num,b1⟩
theorem mark_i (a:Option Addr) (n c:Nat) (l:List Int) (p:Nat) (w:World) (h:Row .i32 w a n c l) (hn:n ≤ 4611686018427387904) (hp:p ≤ 4611686018427387903) :
  Calls Tryz.prog 157 #[.slice a n c,.int .i64 (p:Int)] w fun e w' => e = .returned (.int .i64 (bMark l p:Nat)) ∧ Below w.heap.size w w':=by
 go_enter Tryz.func157,Tryz.ntmps157
 go_wp2_with fail
 refine (is_i a n c l p 101 w h hn (by omega)).mono ?_
 rintro e w1 ⟨rfl,b1⟩
 cases e1:isAt l p 101
 ·go_wp2_with fail
  refine (is_i a n c l p 69 w1 (h.below b1) hn (by omega)).mono ?_
  rintro e w2 ⟨rfl,b2⟩
  have b2:=b1.trans (b2.mono b1.size)
  cases e2:isAt l p 69
  ·go_wp2
   go_ret
   exact ⟨by unfold bMark;rw [if_pos ⟨e1,e2⟩];rfl,b2⟩
  ·go_wp2_with fail
   refine (isq_i a n c l (p + 1) _ (by omega) 43 w2 (h.below b2) hn (by omega)).mono ?_
   rintro e w3 ⟨rfl,b3⟩
   have b3:=b2.trans (b3.mono b2.size)
   cases e3:isAt l (p + 1) 43
   ·go_wp2_with fail
    refine (isq_i a n c l (p + 1) _ (by omega) 45 w3 (h.below b3) hn (by omega)).mono ?_
    rintro e w4 ⟨rfl,b4⟩
    have b4:=b3.trans (b4.mono b3.size)
    cases e4:isAt l (p + 1) 45
    ·go_wp2
     go_ret
     exact ⟨by unfold bMark;rw [if_neg (by simp [e2]),if_neg (by simp [e3,e4])];go_num,b4⟩
    ·go_wp2
     go_ret
     exact ⟨by unfold bMark;rw [if_neg (by simp [e2]),if_pos (.inr e4)];go_num,b4⟩
   ·go_wp2
    go_ret
    exact ⟨by unfold bMark;rw [if_neg (by simp [e2]),if_pos (.inl e3)];go_num,b3⟩
 ·go_wp2_with fail
  refine (isq_i a n c l (p + 1) _ (by omega) 43 w1 (h.below b1) hn (by omega)).mono ?_
  rintro e w3 ⟨rfl,b3⟩
  have b3:=b1.trans (b3.mono b1.size)
  cases e3:isAt l (p + 1) 43
  ·go_wp2_with fail
   refine (isq_i a n c l (p + 1) _ (by omega) 45 w3 (h.below b3) hn (by omega)).mono ?_
   rintro e w4 ⟨rfl,b4⟩
   have b4:=b3.trans (b4.mono b3.size)
   cases e4:isAt l (p + 1) 45
   ·go_wp2
    go_ret
    exact ⟨by unfold bMark;rw [if_neg (by simp [e1]),if_neg (by simp [e3,e4])];go_num,b4⟩
   ·go_wp2
    go_ret
    exact ⟨by unfold bMark;rw [if_neg (by simp [e1]),if_pos (.inr e4)];go_num,b4⟩
  ·go_wp2
   go_ret
   exact ⟨by unfold bMark;rw [if_neg (by simp [e1]),if_pos (.inl e3)];go_num,b3⟩
theorem whole_i (a:Option Addr) (n c:Nat) (l:List Int) (p:Nat) (w:World) (h:Row .i32 w a n c l) (hn:n ≤ 4611686018427387904) (hp:p ≤ 4611686018427387904) :
  Calls Tryz.prog 154 #[.slice a n c,.int .i64 (p:Int)] w fun e w' => e = .returned (.int .i64 (bWhole l p:Nat)) ∧ Below w.heap.size w w':=by
 go_enter Tryz.func154,Tryz.ntmps154
 go_wp2_with fail
 refine (is_i a n c l p 48 w h hn hp).mono ?_
 rintro e w1 ⟨rfl,b1⟩
 cases e1:isAt l p 48
 ·go_wp2_with fail
  refine (digs_i a n c l p w1 (h.below b1) hn hp).mono ?_
  rintro e w2 ⟨rfl,b2⟩
  have b2:=b1.trans (b2.mono b1.size)
  go_wp2
  go_ret
  exact ⟨by unfold bWhole;rw [e1];rfl,b2⟩
 ·go_wp2
  go_ret
  exact ⟨by unfold bWhole;rw [e1];go_num,b1⟩
theorem wholeq_i (a:Option Addr) (n c:Nat) (l:List Int) (p:Nat) (q:Int) (hq:q = (p:Int)) (w:World) (h:Row .i32 w a n c l) (hn:n ≤ 4611686018427387904) (hp:p ≤ 4611686018427387904) :
  Calls Tryz.prog 154 #[.slice a n c,.int .i64 q] w fun e w' => e = .returned (.int .i64 (bWhole l p:Nat)) ∧ Below w.heap.size w w':=by
 subst hq;exact whole_i a n c l p w h hn hp
theorem part_i (a:Option Addr) (n c:Nat) (l:List Int) (p first:Nat) (w:World) (h:Row .i32 w a n c l) (hn:n ≤ 4611686018427387904) (hp:p ≤ 4611686018427387904) (hf:first ≤ 4611686018427387904) :
  Calls Tryz.prog 155 #[.slice a n c,.int .i64 (p:Int),.int .i64 (first:Int)] w fun e w' => e = .returned (.tuple #[.int .i64 ((bPart l p first).1:Nat),.int .i64 ((bPart l p first).2:Nat)]) ∧ Below w.heap.size w w':=by
 go_enter Tryz.func155,Tryz.ntmps155
 by_cases e1:first = p
 ·have e1i:((first:Int) == (p:Int)) = true:=by simp [e1]
  go_wp2
  go_ret2
  exact ⟨by unfold bPart;rw [if_pos e1];rfl,Below.refl _ _⟩
 ·have e1i:((first:Int) == (p:Int)) = false:=by simp;omega
  go_wp2_with fail
  refine (digs_i a n c l first w h hn hf).mono ?_
  rintro e w1 ⟨rfl,b1⟩
  by_cases e2:digs l first = first
  ·have e2i:((digs l first:Int) == (first:Int)) = true:=by simp [e2]
   go_wp2
   go_ret2
   exact ⟨by unfold bPart;rw [if_neg e1,if_pos e2,e2];rfl,b1⟩
  ·have e2i:((digs l first:Int) == (first:Int)) = false:=by simp;omega
   go_wp2
   go_ret2
   exact ⟨by unfold bPart;rw [if_neg e1,if_neg e2];rfl,b1⟩
set_option maxHeartbeats 1000000 in
theorem prefix_in_i (a:Option Addr) (n c:Nat) (l:List Int) (p:Nat) (w:World) (h:Row .i32 w a n c l) (hn:n ≤ 4611686018427387900) (hp:p ≤ n) :
  Calls Tryz.prog 139 #[.slice a n c,.int .i64 (p:Int)] w fun e w' => e = .returned (.tuple #[.int .i64 ((pfx l p).1:Nat),.int .i64 ((pfx l p).2.1:Nat),.int .i64 (pfx l p).2.2]) ∧ Below w.heap.size w w':=by
 go_enter Tryz.func139,Tryz.ntmps139
 have h0:¬ (p:Int) < 0:=by omega
 have h1:¬ (n:Int) < (p:Int):=by omega
 go_wp2_with fail
 refine (is_i a n c l p 45 w h (by omega) (by omega)).mono ?_
 rintro e w1 ⟨rfl,b1⟩
 cases e1:isAt l p 45
 ·have hF:=Hi (show pfxFirst l p = p from by unfold pfxFirst;rw [e1];rfl)
  clear e1
  have HL:=Hi h.len
  have hF1:=whole_le (l:=l) (p:=p) (by rw [h.len];omega)
  rw [h.len] at hF1
  go_wp2_with fail
  refine (wholeq_i a n c l (p) _ (by omega) w1 (h.below b1) (by omega) (by omega)).mono ?_
  rintro e w2 ⟨rfl,b2⟩
  have b2:=b1.trans (b2.mono b1.size)
  by_cases e2:bWhole l (p) = p
  ·have e2i:((bWhole l (p):Int) == (p:Int)) = true:=by simp;omega
   have HE2:=Hi e2
   clear e2
   go_wp2
   go_ret3
   exact ⟨by unfold pfx;rw [uh hF,if_pos (uh HE2)];rfl,b2⟩
  ·have e2i:((bWhole l (p):Int) == (p:Int)) = false:=by simp;omega
   have HP:=Hi (show pfx l p = ((pfxR l (bWhole l (p))).1,(pfxR l (bWhole l (p))).2,if (pfxR l (bWhole l (p))).1 > bWhole l (p) then 2 else 1) from by unfold pfx;rw [uh hF,if_neg e2])
   clear e2
   generalize bWhole l (p) = E at *
   have hq1:=point_le (l:=l) (p:=E) (by rw [uh HL];exact hF1)
   have hq2:=part_le (l:=l) (p:=E) (f:=bPoint l E) (by rw [uh HL];exact hF1) hq1
   rw [uh HL] at hq1 hq2
   go_wp2_with fail
   refine (point_i a n c l E w2 (h.below b2) (by omega) (by omega)).mono ?_
   rintro e w3 ⟨rfl,b3⟩
   have b3:=b2.trans (b3.mono b2.size)
   go_wp2_with fail
   refine (part_i a n c l E (bPoint l E) w3 (h.below b3) (by omega) (by omega) (by omega)).mono ?_
   rintro e w4 ⟨rfl,b4⟩
   have b4:=b3.trans (b4.mono b3.size)
   have HR:=Hi (show pfxR l E = if (bPart l E (bPoint l E)).1 = (bPart l E (bPoint l E)).2 then bPart l (bPart l E (bPoint l E)).1 (bMark l (bPart l E (bPoint l E)).1) else bPart l E (bPoint l E) from rfl)
   clear hq1
   generalize bPart l E (bPoint l E) = R at *
   obtain ⟨R1,R2⟩:=R
   simp only at hq2
   by_cases e3:R1 = R2
   ·have e3i:((R1:Int) == (R2:Int)) = true:=by simp;omega
    have HR2:=Hi (show pfxR l E = bPart l R1 (bMark l R1) from by rw [uh HR];exact if_pos e3)
    clear HR
    clear e3i
    subst e3
    have e3i:((R1:Int) == (R1:Int)) = true:=by simp
    have hm1:=mark_le (l:=l) (p:=R1) (by rw [uh HL];exact hq2.1)
    rw [uh HL] at hm1
    go_wp2_with fail
    refine (mark_i a n c l R1 w4 (h.below b4) (by omega) (by omega)).mono ?_
    rintro e w5 ⟨rfl,b5⟩
    have b5:=b4.trans (b5.mono b4.size)
    go_wp2_with fail
    refine (part_i a n c l R1 (bMark l R1) w5 (h.below b5) (by omega) (by omega) (by omega)).mono ?_
    rintro e w6 ⟨rfl,b6⟩
    have b6:=b5.trans (b6.mono b5.size)
    clear hm1 e3i
    rw [uh HR2] at HP
    generalize bPart l R1 (bMark l R1) = S at *
    obtain ⟨S1,S2⟩:=S
    by_cases e4:E < S1
    ·have HQ:=Hi (show pfx l p = (S1,S2,2) from by rw [uh HP];simp [e4])
     have e4i:(E:Int) < (S1:Int):=by omega
     clear HP HR2
     go_wp2
     go_ret3
     exact ⟨by rw [uh HQ];rfl,b6⟩
    ·have HQ:=Hi (show pfx l p = (S1,S2,1) from by rw [uh HP];simp [e4])
     have e4i:¬ (E:Int) < (S1:Int):=by omega
     clear HP HR2
     go_wp2
     go_ret3
     exact ⟨by rw [uh HQ];rfl,b6⟩
   ·have e3i:((R1:Int) == (R2:Int)) = false:=by simp;omega
    have HR2:=Hi (show pfxR l E = (R1,R2) from by rw [uh HR];exact if_neg e3)
    clear HR e3
    rw [uh HR2] at HP
    by_cases e4:E < R1
    ·have HQ:=Hi (show pfx l p = (R1,R2,2) from by rw [uh HP];simp [e4])
     have e4i:(E:Int) < (R1:Int):=by omega
     clear HP HR2
     go_wp2
     go_ret3
     exact ⟨by rw [uh HQ];rfl,b4⟩
    ·have HQ:=Hi (show pfx l p = (R1,R2,1) from by rw [uh HP];simp [e4])
     have e4i:¬ (E:Int) < (R1:Int):=by omega
     clear HP HR2
     go_wp2
     go_ret3
     exact ⟨by rw [uh HQ];rfl,b4⟩
 ·have hF:=Hi (show pfxFirst l p = p + 1 from by unfold pfxFirst;rw [e1];rfl)
  have hpl:=isAt_lt e1
  rw [h.len] at hpl
  clear e1
  have HL:=Hi h.len
  have hF1:=whole_le (l:=l) (p:=p + 1) (by rw [h.len];omega)
  rw [h.len] at hF1
  go_wp2_with fail
  refine (wholeq_i a n c l (p + 1) _ (by omega) w1 (h.below b1) (by omega) (by omega)).mono ?_
  rintro e w2 ⟨rfl,b2⟩
  have b2:=b1.trans (b2.mono b1.size)
  by_cases e2:bWhole l (p + 1) = p + 1
  ·have e2i:((bWhole l (p + 1):Int) == ((p:Int) + 1)) = true:=by simp;omega
   have HE2:=Hi e2
   clear e2
   go_wp2
   go_ret3
   exact ⟨by unfold pfx;rw [uh hF,if_pos (uh HE2)];rfl,b2⟩
  ·have e2i:((bWhole l (p + 1):Int) == ((p:Int) + 1)) = false:=by simp;omega
   have HP:=Hi (show pfx l p = ((pfxR l (bWhole l (p + 1))).1,(pfxR l (bWhole l (p + 1))).2,if (pfxR l (bWhole l (p + 1))).1 > bWhole l (p + 1) then 2 else 1) from by unfold pfx;rw [uh hF,if_neg e2])
   clear e2
   generalize bWhole l (p + 1) = E at *
   have hq1:=point_le (l:=l) (p:=E) (by rw [uh HL];exact hF1)
   have hq2:=part_le (l:=l) (p:=E) (f:=bPoint l E) (by rw [uh HL];exact hF1) hq1
   rw [uh HL] at hq1 hq2
   go_wp2_with fail
   refine (point_i a n c l E w2 (h.below b2) (by omega) (by omega)).mono ?_
   rintro e w3 ⟨rfl,b3⟩
   have b3:=b2.trans (b3.mono b2.size)
   go_wp2_with fail
   refine (part_i a n c l E (bPoint l E) w3 (h.below b3) (by omega) (by omega) (by omega)).mono ?_
   rintro e w4 ⟨rfl,b4⟩
   have b4:=b3.trans (b4.mono b3.size)
   have HR:=Hi (show pfxR l E = if (bPart l E (bPoint l E)).1 = (bPart l E (bPoint l E)).2 then bPart l (bPart l E (bPoint l E)).1 (bMark l (bPart l E (bPoint l E)).1) else bPart l E (bPoint l E) from rfl)
   clear hq1
   generalize bPart l E (bPoint l E) = R at *
   obtain ⟨R1,R2⟩:=R
   simp only at hq2
   by_cases e3:R1 = R2
   ·have e3i:((R1:Int) == (R2:Int)) = true:=by simp;omega
    have HR2:=Hi (show pfxR l E = bPart l R1 (bMark l R1) from by rw [uh HR];exact if_pos e3)
    clear HR
    clear e3i
    subst e3
    have e3i:((R1:Int) == (R1:Int)) = true:=by simp
    have hm1:=mark_le (l:=l) (p:=R1) (by rw [uh HL];exact hq2.1)
    rw [uh HL] at hm1
    go_wp2_with fail
    refine (mark_i a n c l R1 w4 (h.below b4) (by omega) (by omega)).mono ?_
    rintro e w5 ⟨rfl,b5⟩
    have b5:=b4.trans (b5.mono b4.size)
    go_wp2_with fail
    refine (part_i a n c l R1 (bMark l R1) w5 (h.below b5) (by omega) (by omega) (by omega)).mono ?_
    rintro e w6 ⟨rfl,b6⟩
    have b6:=b5.trans (b6.mono b5.size)
    clear hm1 e3i
    rw [uh HR2] at HP
    generalize bPart l R1 (bMark l R1) = S at *
    obtain ⟨S1,S2⟩:=S
    by_cases e4:E < S1
    ·have HQ:=Hi (show pfx l p = (S1,S2,2) from by rw [uh HP];simp [e4])
     have e4i:(E:Int) < (S1:Int):=by omega
     clear HP HR2
     go_wp2
     go_ret3
     exact ⟨by rw [uh HQ];rfl,b6⟩
    ·have HQ:=Hi (show pfx l p = (S1,S2,1) from by rw [uh HP];simp [e4])
     have e4i:¬ (E:Int) < (S1:Int):=by omega
     clear HP HR2
     go_wp2
     go_ret3
     exact ⟨by rw [uh HQ];rfl,b6⟩
   ·have e3i:((R1:Int) == (R2:Int)) = false:=by simp;omega
    have HR2:=Hi (show pfxR l E = (R1,R2) from by rw [uh HR];exact if_neg e3)
    clear HR e3
    rw [uh HR2] at HP
    by_cases e4:E < R1
    ·have HQ:=Hi (show pfx l p = (R1,R2,2) from by rw [uh HP];simp [e4])
     have e4i:(E:Int) < (R1:Int):=by omega
     clear HP HR2
     go_wp2
     go_ret3
     exact ⟨by rw [uh HQ];rfl,b4⟩
    ·have HQ:=Hi (show pfx l p = (R1,R2,1) from by rw [uh HP];simp [e4])
     have e4i:¬ (E:Int) < (R1:Int):=by omega
     clear HP HR2
     go_wp2
     go_ret3
     exact ⟨by rw [uh HQ];rfl,b4⟩
def posT (l:List Int):Nat → Int × Int
 | 0 => (1,1)
 | k + 1 => (if enB l k then (posT l k).1 + 1 else (posT l k).1,if enB l k then 1 else (posT l k).2 + 1)
theorem posT_bd (l:List Int) (k:Nat):1 ≤ (posT l k).1 ∧ (posT l k).1 ≤ k + 1 ∧ 1 ≤ (posT l k).2 ∧ (posT l k).2 ≤ k + 1:=by
 induction k with
 | zero => simp [posT]
 | succ k ih => simp only [posT];split <;> omega
def posCells (ps:List (Int × Int)):List Value:=ps.flatMap fun p => [.int .i64 p.1,.int .i64 p.2]
def plist (l:List Int) (k:Nat):List (Int × Int):=(List.range k).map (posT l)
theorem plist_succ (l:List Int) (k:Nat):posCells (plist l (k + 1)) = posCells (plist l k) ++ [.int .i64 (posT l k).1,.int .i64 (posT l k).2]:=by
 unfold plist posCells
 rw [List.range_succ,List.map_append,List.flatMap_append]
 simp
theorem infoPos:(Tryz.prog.info? 31).map (fun i => (i.zero,i.size,i.bytes)) = some (some (.agg #[.int .i64 0,.int .i64 0]),2,16):=by kernel_rfl
theorem cell_two (w:World) (x y:Value) (t:TypeId):∀ j u,[x,y][j]? = some u → (w.alloc (.cells #[x,y] t)).cell? ((⟨w.heap.size,0,none⟩:Addr).add j) = some u:=by
 intro j u hj
 match j,hj with
 | 0,hj => simp at hj;subst hj;simp [Addr.add]
 | 1,hj => simp at hj;subst hj;simp [Addr.add]
 | (j + 2),hj => simp at hj
theorem one_two (x y:Int):∀ u ∈ [Value.int .i64 x,Value.int .i64 y],u.oneCell' = true:=by
 intro u hu;simp at hu;rcases hu with rfl | rfl <;> rfl
def Box (w:World) (B:Nat) (x y:Int):Prop:=w.heap[B]? = some (.cells #[.int .i64 x,.int .i64 y] 31 (0,0))
theorem Box.cells {w:World} {B:Nat} {x y:Int} (h:Box w B x y):w.cell? ⟨B,0,none⟩ = some (.int .i64 x) ∧ w.cell? ⟨B,1,none⟩ = some (.int .i64 y) ∧ w.frozen? ⟨B,0,none⟩ = false ∧ w.frozen? ⟨B,1,none⟩ = false:=by
 unfold Box at h
 refine ⟨?_,?_,?_,?_⟩
 ·simp [World.cell?,h]
 ·simp [World.cell?,h]
 ·simp [World.frozen?,h]
 ·simp [World.frozen?,h]
theorem Box.lt {w:World} {B:Nat} {x y:Int} (h:Box w B x y):B < w.heap.size:=(Array.getElem?_eq_some_iff.1 h).1
theorem Box.below {w w':World} {B:Nat} {x y:Int} (h:Box w B x y) (hb:Below w.heap.size w w'):Box w' B x y:=(hb.block B h.lt).trans h
theorem Box.set {w:World} {B:Nat} {x y:Int} (h:Box w B x y) (x' y':Int):Box ((w.setCell ⟨B,0,none⟩ (.int .i64 x')).setCell ⟨B,1,none⟩ (.int .i64 y')) B x' y':=by
 unfold Box at *
 simp [World.setCell,Array.getElem?_modify,h]
set_option maxHeartbeats 2000000 in
theorem places_any (a:Option Addr) (n c:Nat) (l:List Int) (w:World) (h:Row .i32 w a n c l) (hn:n ≤ 1099511627776) :
  Calls Tryz.prog 74 #[.slice a n c] w fun e w' => e = .returned (.slice (some ⟨w.heap.size + 1,0,none⟩) (n + 1) (n + 1)) ∧
   w'.ownsRow (w.heap.size + 1) 31 2 (.slice (some ⟨w.heap.size + 1,0,none⟩) (n + 1) (n + 1)) (n + 1) (posCells (plist l (n + 1))) ∧ Below w.heap.size w w':=by
 obtain ⟨i0,hi,hz0,hz1,hz2⟩:=info_parts infoPos
 have e0:=Hi (show (w.alloc (.cells #[.int .i64 1,.int .i64 1] 31)).heap.size = w.heap.size + 1 from by simp)
 have bx0:=Hi (show Box (w.alloc (.cells #[.int .i64 1,.int .i64 1] 31)) w.heap.size 1 1 from heap_alloc_new w _)
 have hbe0:=Hi (show Below w.heap.size w (w.alloc (.cells #[.int .i64 1,.int .i64 1] 31)) from (Below.refl _ _).alloc (Nat.le_refl _) _)
 go_enter Tryz.func74,Tryz.ntmps74
 go_wp2_with (first
  | (refine wpList_make_own _ rfl _ _ 35 rfl (w.heap.size + 1) 31 i0 (.agg #[.int .i64 0,.int .i64 0]) 2 Tryz.underlying35 hi hz0 hz1 .i64 .i64 _ (n + 1) rfl rfl (by omega) (by rw [hz2];omega) (by unfold maxLen;omega) (by simp) ?_;intro w1 hown hgrow;rw [uh e0] at hown;have hg1:=belowNone hgrow;have bx1:=(uh bx0).below hg1;obtain ⟨k0,k1,k2,k3⟩:=bx1.cells;have hg:=(uh hbe0).trans (hg1.mono (by rw [uh e0];omega));have hsz:=hg1.size;rw [uh e0] at hsz;clear hgrow hg1)
  | (at_builtin;refine wpList_append_fits _ rfl (.tmp 11) (.tmp 13) 35 rfl (w.heap.size + 1) 31 i0 2 Tryz.underlying35 hi hz1 (w.heap.size + 1) 0 (n + 1) [] rfl (hown.alloc _) ⟨w1.heap.size,0,none⟩ 1 1 [.int .i64 1,.int .i64 1] rfl rfl (cell_two _ _ _ _) (one_two _ _) (by omega) ?_;intro w2 hown2 hgrow2))
 simp only [Nat.zero_add,List.nil_append] at hown2 ⊢
 have hal:Below w1.heap.size w1 (w1.alloc (.cells #[.int .i64 1,.int .i64 1] 31)):=(Below.refl _ _).alloc (Nat.le_refl _) _
 have hgr:Below (w.heap.size + 1) w1 w2:=(hal.mono hsz).grown hgrow2 (by simp;omega) (fun k hk => by obtain rfl:=Option.some.inj hk;exact Nat.le_refl _)
 have hb2:Below w.heap.size w w2:=hg.trans (hgr.mono (by omega))
 have bx2:Box w2 w.heap.size 1 1:=(hgr.block _ (by omega)).trans bx1
 have hs2:w.heap.size + 1 ≤ w2.heap.size:=Nat.le_trans hsz hgr.size
 clear hal hgr hgrow2 hown k0 k1 k2 k3 bx1 hg hsz bx0 hbe0 e0
 go_loopw [4,17] (fun v i wr => ∃ k:Nat,k ≤ n ∧ i = .int .i64 k ∧ v = .slice (some ⟨w.heap.size + 1,0,none⟩) (k + 1) (n + 1) ∧
  wr.ownsRow (w.heap.size + 1) 31 2 (.slice (some ⟨w.heap.size + 1,0,none⟩) (k + 1) (n + 1)) (k + 1) (posCells (plist l (k + 1))) ∧ Box wr w.heap.size (posT l k).1 (posT l k).2 ∧ Below w.heap.size w wr) (fun _ i _ => n - (intOf i).toNat)
 case atStart => exact ⟨0,Nat.zero_le _,rfl,rfl,hown2,bx2,hb2⟩
 case round =>
  obtain ⟨k,hk,rfl,rfl,hown,hbx,hbel⟩:=hrel
  clear hown2 bx2 hb2 hs2
  by_cases hlt:k < n
  ·obtain ⟨q0,q1,q2,q3⟩:=hbx.cells
   have hbd:=posT_bd l k
   have hstep:=Hi (show posT l (k + 1) = (if enB l k then (posT l k).1 + 1 else (posT l k).1,if enB l k then 1 else (posT l k).2 + 1) from rfl)
   have P:=Hi (behind_any a n c l k (posT l k).1 (posT l k).2 wr (h.below hbel) (by omega) hlt (by omega) (by omega) (by omega) (by omega))
   obtain ⟨X,hX⟩:∃ X,X = posT l k:=⟨_,rfl⟩
   obtain ⟨Y,hY⟩:∃ Y,Y = posT l (k + 1):=⟨_,rfl⟩
   have hY1:=Hi (show Y.1 = (if enB l k then X.1 + 1 else X.1) from by rw [hY,hX,uh hstep])
   have hY2:=Hi (show Y.2 = (if enB l k then 1 else X.2 + 1) from by rw [hY,hX,uh hstep])
   rw [← hX] at P q0 q1 hbx
   rw [← uh hY1,← uh hY2] at P
   have HY:=Hi hY
   have hkl:(k:Int) < (n:Int):=by omega
   clear hX hY hstep hY1 hY2 hbd
   go_wp2_with fail
   refine (uh P).mono ?_
   rintro e w3 ⟨rfl,hb3⟩
   have hbx3:=hbx.below hb3
   have hown3:=own_below hown hb3
   have hbel3:=hbel.trans (hb3.mono hbel.size)
   obtain ⟨p0,p1,p2,p3⟩:=hbx3.cells
   obtain ⟨W3,hW3⟩:∃ W3,W3 = (w3.setCell ⟨w.heap.size,0,none⟩ (.int .i64 Y.1)).setCell ⟨w.heap.size,1,none⟩ (.int .i64 Y.2):=⟨_,rfl⟩
   have hsz3:W3.heap.size = w3.heap.size:=by rw [hW3];simp [World.setCell]
   have hownS:W3.ownsRow (w.heap.size + 1) 31 2 (.slice (some ⟨w.heap.size + 1,0,none⟩) (k + 1) (n + 1)) (k + 1) (posCells (plist l (k + 1))):=by
    rw [hW3]
    exact ownsRow_setCell_below (ownsRow_setCell_below hown3 (by simp) _) (by simp) _
   have hbxS:Box W3 w.heap.size Y.1 Y.2:=by rw [hW3];exact hbx3.set _ _
   have hbelS:Below w.heap.size w W3:=by rw [hW3];exact (hbel3.setCell (Nat.le_refl _) _).setCell (Nat.le_refl _) _
   have hcel:∀ j u,[Value.int .i64 Y.1,Value.int .i64 Y.2][j]? = some u → (W3.alloc (.cells #[.int .i64 Y.1,.int .i64 Y.2] 31)).cell? ((⟨w3.heap.size,0,none⟩:Addr).add j) = some u:=by
    rw [← hsz3];exact cell_two _ _ _ _
   have hownA:=hownS.alloc (.cells #[.int .i64 Y.1,.int .i64 Y.2] 31)
   have HA:=Hi hownA
   have HCel:=Hi hcel
   have HbS:=Hi hbelS
   have HxS:=Hi hbxS
   have Hs3:=Hi hsz3
   rw [hW3] at HA HCel
   have HW:=Hi hW3
   clear P hb3 hown hbx q0 q1 q2 q3 hbel hW3 hownA hownS hcel hbelS hbxS hsz3
   go_wp2_with (at_builtin;refine wpList_append_fits _ rfl (.tmp 24) (.tmp 26) 35 rfl (w.heap.size + 1) 31 i0 2 Tryz.underlying35 hi hz1 (w.heap.size + 1) (k + 1) (n + 1) (posCells (plist l (k + 1))) rfl (uh HA) ⟨w3.heap.size,0,none⟩ 1 1 [.int .i64 Y.1,.int .i64 Y.2] rfl rfl (uh HCel) (one_two _ _) (by omega) ?_;intro w4 hown4 hgrow4)
   go_roundw
   case rel =>
    rw [← uh HW] at hgrow4
    have hb4:Below (w.heap.size + 1) W3 w4:=((Below.refl _ _).alloc (by rw [uh Hs3];have:=hbx3.lt;omega) _).grown hgrow4 (by simp;rw [uh Hs3];have:=hbx3.lt;omega) (fun k hk => by obtain rfl:=Option.some.inj hk;exact Nat.le_refl _)
    refine ⟨k + 1,by omega,by go_num,rfl,?_,?_,(uh HbS).trans (hb4.mono (by omega))⟩
    ·rw [plist_succ l (k + 1),← uh HY];exact hown4
    ·rw [← uh HY];exact (hb4.block _ (by omega)).trans (uh HxS)
   case measure => simp [intOf];omega
  ·have ek:k = n:=by omega
   subst ek
   go_wp2
   go_ret
   exact ⟨rfl,hown,hbel⟩
def bytesZ (s:ByteArray):List Int:=s.data.toList.map fun b => (b.toNat:Int)
theorem bytesZ_len (s:ByteArray):(bytesZ s).length = s.size:=by unfold bytesZ;rw [List.length_map,Array.length_toList];rfl
theorem bytesZ_byt (s:ByteArray):Byt (bytesZ s):=by
 intro z hz
 obtain ⟨b,_,rfl⟩:=List.mem_map.1 hz
 have:=b.toNat_lt
 omega
theorem bytesZ_str (zs:List Int) (h:Byt zs):bytesZ (strOfNums zs) = zs:=by
 unfold bytesZ
 rw [strOfNums_data,List.map_map]
 conv => rhs;rw [← List.map_id zs]
 apply List.map_congr_left
 intro z hz
 have:=h z hz
 simp
 omega
theorem bytesZ_get (s:ByteArray) (i:Nat):(bytesZ s).getD i 0 = ((s.get! i).toNat:Int):=by
 unfold bytesZ
 have e:s.get! i = s.data[i]! := rfl
 rw [e]
 by_cases h:i < s.data.size
 ·rw [getElem!_pos s.data i h]
  simp [List.getD,Array.getElem?_eq_getElem h]
 ·rw [getElem!_neg s.data i h]
  simp [List.getD,Array.getElem?_eq_none (Nat.le_of_not_lt h)]
  rfl
theorem drop_getD (l:List Int) (p k:Nat):(l.drop p).getD k 0 = l.getD (p + k) 0:=by simp [List.getD]
theorem oneL_at (s:ByteArray) (p:Nat):oneL ((bytesZ s).drop p) = oneQ (s.size - p) ((s.get! p).toNat:Int) ((s.get! (p + 1)).toNat:Int) ((s.get! (p + 2)).toNat:Int) ((s.get! (p + 3)).toNat:Int):=by
 unfold oneL
 rw [drop_getD,drop_getD,drop_getD,drop_getD,bytesZ_get,bytesZ_get,bytesZ_get,bytesZ_get]
 simp [bytesZ_len]
theorem oneQ_bad {n:Nat} {b0:Int} (b1 b2 b3:Int) (h0:128 ≤ b0) (h:b0 < 192 ∨ 248 ≤ b0):oneQ n b0 b1 b2 b3 = (0,0):=by
 unfold oneQ
 rw [if_neg (by omega),if_neg (by omega),if_neg (by omega),if_neg (by omega)]
theorem oneQ_2 {n:Nat} {b0:Int} (b1 b2 b3:Int) (h0:192 ≤ b0) (h1:b0 < 224):oneQ n b0 b1 b2 b3 = if 1 < n ∧ b1 / 64 = 2 ∧ 128 ≤ b0 % 32 * 64 + b1 % 64 then (b0 % 32 * 64 + b1 % 64,2) else (0,0):=by
 unfold oneQ
 have e1:b0 / 32 = 6:=by omega
 have e2:¬ b0 / 16 = 14:=by omega
 have e3:¬ b0 / 8 = 30:=by omega
 rw [if_neg (by omega)]
 simp only [e1,e2,e3,true_and,false_and,and_false,if_false]
theorem oneQ_3 {n:Nat} {b0:Int} (b1 b2 b3:Int) (h0:224 ≤ b0) (h1:b0 < 240):oneQ n b0 b1 b2 b3 = if 2 < n ∧ b1 / 64 = 2 ∧ b2 / 64 = 2 ∧ 2048 ≤ b0 % 16 * 4096 + b1 % 64 * 64 + b2 % 64 ∧ (b0 % 16 * 4096 + b1 % 64 * 64 + b2 % 64 ≤ 55295 ∨ 57344 ≤ b0 % 16 * 4096 + b1 % 64 * 64 + b2 % 64) then (b0 % 16 * 4096 + b1 % 64 * 64 + b2 % 64,3) else (0,0):=by
 unfold oneQ
 have e1:¬ b0 / 32 = 6:=by omega
 have e2:b0 / 16 = 14:=by omega
 have e3:¬ b0 / 8 = 30:=by omega
 rw [if_neg (by omega)]
 simp only [e1,e2,e3,true_and,false_and,and_false,if_false]
theorem oneQ_4 {n:Nat} {b0:Int} (b1 b2 b3:Int) (h0:240 ≤ b0) (h1:b0 < 248):oneQ n b0 b1 b2 b3 = if 3 < n ∧ b1 / 64 = 2 ∧ b2 / 64 = 2 ∧ b3 / 64 = 2 ∧ 65536 ≤ b0 % 8 * 262144 + b1 % 64 * 4096 + b2 % 64 * 64 + b3 % 64 ∧ b0 % 8 * 262144 + b1 % 64 * 4096 + b2 % 64 * 64 + b3 % 64 ≤ 1114111 then (b0 % 8 * 262144 + b1 % 64 * 4096 + b2 % 64 * 64 + b3 % 64,4) else (0,0):=by
 unfold oneQ
 have e1:¬ b0 / 32 = 6:=by omega
 have e2:¬ b0 / 16 = 14:=by omega
 have e3:b0 / 8 = 30:=by omega
 rw [if_neg (by omega)]
 simp only [e1,e2,e3,true_and,false_and,and_false,if_false]
def decQ (n b0 b1 b2 b3:Nat):Nat × Nat:=
 if b0 < 128 then (b0,1)
 else if (b0 / 32 == 6 && (decide (1 < n) && b1 / 64 == 2)) = true then (if b0 % 32 * 64 + b1 % 64 ≥ 128 then (b0 % 32 * 64 + b1 % 64,2) else (65533,1))
 else if (b0 / 16 == 14 && (decide (1 < n) && b1 / 64 == 2) && (decide (2 < n) && b2 / 64 == 2)) = true then
  (if (decide (b0 % 16 * 4096 + b1 % 64 * 64 + b2 % 64 ≥ 2048) && Utf8.valid ((b0 % 16 * 4096 + b1 % 64 * 64 + b2 % 64:Nat):Int)) = true then (b0 % 16 * 4096 + b1 % 64 * 64 + b2 % 64,3) else (65533,1))
 else if (b0 / 8 == 30 && (decide (1 < n) && b1 / 64 == 2) && (decide (2 < n) && b2 / 64 == 2) && (decide (3 < n) && b3 / 64 == 2)) = true then
  (if (decide (b0 % 8 * 262144 + b1 % 64 * 4096 + b2 % 64 * 64 + b3 % 64 ≥ 65536) && Utf8.valid ((b0 % 8 * 262144 + b1 % 64 * 4096 + b2 % 64 * 64 + b3 % 64:Nat):Int)) = true then (b0 % 8 * 262144 + b1 % 64 * 4096 + b2 % 64 * 64 + b3 % 64,4) else (65533,1))
 else (65533,1)
theorem decide_lt_sub (p k n:Nat):decide (p + k < n) = decide (k < n - p):=by
 rw [decide_eq_decide];omega
theorem decode_Q (s:ByteArray) (p:Nat):Utf8.decode s p = decQ (s.size - p) (s.get! p).toNat (s.get! (p + 1)).toNat (s.get! (p + 2)).toNat (s.get! (p + 3)).toNat:=by
 unfold Utf8.decode decQ
 simp only [Nat.add_zero,decide_lt_sub,Utf8.runeError]
theorem valid_iff (c:Nat):Utf8.valid (c:Int) = true ↔ (c ≤ 55295 ∨ 57344 ≤ c ∧ c ≤ 1114111):=by
 simp [Utf8.valid];omega
theorem decQ_bad {n b0:Nat} (b1 b2 b3:Nat) (h0:128 ≤ b0) (h:b0 < 192 ∨ 248 ≤ b0):decQ n b0 b1 b2 b3 = (65533,1):=by
 unfold decQ
 have e1:(b0 / 32 == 6) = false:=by simp;omega
 have e2:(b0 / 16 == 14) = false:=by simp;omega
 have e3:(b0 / 8 == 30) = false:=by simp;omega
 rw [if_neg (by omega)]
 simp [e1,e2,e3]
theorem decQ_2 {n b0:Nat} (b1 b2 b3:Nat) (h0:192 ≤ b0) (h1:b0 < 224):decQ n b0 b1 b2 b3 = if (1 < n ∧ b1 / 64 = 2) ∧ 128 ≤ b0 % 32 * 64 + b1 % 64 then (b0 % 32 * 64 + b1 % 64,2) else (65533,1):=by
 unfold decQ
 have e1:(b0 / 32 == 6) = true:=by simp;omega
 have e2:(b0 / 16 == 14) = false:=by simp;omega
 have e3:(b0 / 8 == 30) = false:=by simp;omega
 rw [if_neg (by omega)]
 simp only [e1,e2,e3,Bool.true_and,Bool.false_and,Bool.and_eq_true,decide_eq_true_eq,beq_iff_eq,Bool.false_eq_true,if_false,ge_iff_le]
 by_cases a:1 < n ∧ b1 / 64 = 2
 ·by_cases b:128 ≤ b0 % 32 * 64 + b1 % 64
  ·rw [if_pos a,if_pos b,if_pos ⟨a,b⟩]
  ·rw [if_pos a,if_neg b,if_neg (fun h => b h.2)]
 ·rw [if_neg a,if_neg (fun h => a h.1)]
theorem decQ_3 {n b0:Nat} (b1 b2 b3:Nat) (h0:224 ≤ b0) (h1:b0 < 240):decQ n b0 b1 b2 b3 = if ((1 < n ∧ b1 / 64 = 2) ∧ 2 < n ∧ b2 / 64 = 2) ∧ 2048 ≤ b0 % 16 * 4096 + b1 % 64 * 64 + b2 % 64 ∧ (b0 % 16 * 4096 + b1 % 64 * 64 + b2 % 64 ≤ 55295 ∨ 57344 ≤ b0 % 16 * 4096 + b1 % 64 * 64 + b2 % 64 ∧ b0 % 16 * 4096 + b1 % 64 * 64 + b2 % 64 ≤ 1114111) then (b0 % 16 * 4096 + b1 % 64 * 64 + b2 % 64,3) else (65533,1):=by
 unfold decQ
 have e1:(b0 / 32 == 6) = false:=by simp;omega
 have e2:(b0 / 16 == 14) = true:=by simp;omega
 have e3:(b0 / 8 == 30) = false:=by simp;omega
 rw [if_neg (by omega)]
 simp only [e1,e2,e3,Bool.true_and,Bool.false_and,Bool.and_eq_true,decide_eq_true_eq,beq_iff_eq,Bool.false_eq_true,if_false,ge_iff_le,valid_iff]
 generalize b0 % 16 * 4096 + b1 % 64 * 64 + b2 % 64 = C
 by_cases a:(1 < n ∧ b1 / 64 = 2) ∧ 2 < n ∧ b2 / 64 = 2
 ·by_cases b:2048 ≤ C ∧ (C ≤ 55295 ∨ 57344 ≤ C ∧ C ≤ 1114111)
  ·rw [if_pos a,if_pos b,if_pos ⟨a,b⟩]
  ·rw [if_pos a,if_neg b,if_neg (fun h => b h.2)]
 ·rw [if_neg a,if_neg (fun h => a h.1)]
theorem decQ_4 {n b0:Nat} (b1 b2 b3:Nat) (h0:240 ≤ b0) (h1:b0 < 248):decQ n b0 b1 b2 b3 = if (((1 < n ∧ b1 / 64 = 2) ∧ 2 < n ∧ b2 / 64 = 2) ∧ 3 < n ∧ b3 / 64 = 2) ∧ 65536 ≤ b0 % 8 * 262144 + b1 % 64 * 4096 + b2 % 64 * 64 + b3 % 64 ∧ (b0 % 8 * 262144 + b1 % 64 * 4096 + b2 % 64 * 64 + b3 % 64 ≤ 55295 ∨ 57344 ≤ b0 % 8 * 262144 + b1 % 64 * 4096 + b2 % 64 * 64 + b3 % 64 ∧ b0 % 8 * 262144 + b1 % 64 * 4096 + b2 % 64 * 64 + b3 % 64 ≤ 1114111) then (b0 % 8 * 262144 + b1 % 64 * 4096 + b2 % 64 * 64 + b3 % 64,4) else (65533,1):=by
 unfold decQ
 have e1:(b0 / 32 == 6) = false:=by simp;omega
 have e2:(b0 / 16 == 14) = false:=by simp;omega
 have e3:(b0 / 8 == 30) = true:=by simp;omega
 rw [if_neg (by omega)]
 simp only [e1,e2,e3,Bool.true_and,Bool.false_and,Bool.and_eq_true,decide_eq_true_eq,beq_iff_eq,Bool.false_eq_true,if_false,ge_iff_le,valid_iff]
 generalize b0 % 8 * 262144 + b1 % 64 * 4096 + b2 % 64 * 64 + b3 % 64 = C
 by_cases a:((1 < n ∧ b1 / 64 = 2) ∧ 2 < n ∧ b2 / 64 = 2) ∧ 3 < n ∧ b3 / 64 = 2
 ·by_cases b:65536 ≤ C ∧ (C ≤ 55295 ∨ 57344 ≤ C ∧ C ≤ 1114111)
  ·rw [if_pos a,if_pos b,if_pos ⟨a,b⟩]
  ·rw [if_pos a,if_neg b,if_neg (fun h => b h.2)]
 ·rw [if_neg a,if_neg (fun h => a h.1)]
theorem decQ_one (n b0 b1 b2 b3:Nat) (hn:0 < n) (l0:b0 < 256):decQ n b0 b1 b2 b3 = if (oneQ n b0 b1 b2 b3).2 = 0 then (65533,1) else ((oneQ n b0 b1 b2 b3).1.toNat,(oneQ n b0 b1 b2 b3).2):=by
 by_cases h1:b0 < 128
 ·have e:oneQ n b0 b1 b2 b3 = ((b0:Int),1):=by unfold oneQ;rw [if_pos (by omega)]
  rw [e]
  unfold decQ
  rw [if_pos h1]
  simp
 by_cases h2:b0 < 192 ∨ 248 ≤ b0
 ·rw [decQ_bad b1 b2 b3 (by omega) h2,oneQ_bad (b0:=(b0:Int)) _ _ _ (by omega) (by omega)]
  simp
 by_cases h3:b0 < 224
 ·rw [decQ_2 b1 b2 b3 (by omega) h3]
  by_cases c:(1 < n ∧ b1 / 64 = 2) ∧ 128 ≤ b0 % 32 * 64 + b1 % 64
  ·have e:oneQ n b0 b1 b2 b3 = ((b0:Int) % 32 * 64 + (b1:Int) % 64,2):=by rw [oneQ_2 (b0:=(b0:Int)) _ _ _ (by omega) (by omega),if_pos (by omega)]
   rw [if_pos c,e]
   simp
   omega
  ·have e:oneQ n b0 b1 b2 b3 = (0,0):=by rw [oneQ_2 (b0:=(b0:Int)) _ _ _ (by omega) (by omega),if_neg (by omega)]
   rw [if_neg c,e]
   simp
 by_cases h4:b0 < 240
 ·rw [decQ_3 b1 b2 b3 (by omega) h4]
  by_cases c:((1 < n ∧ b1 / 64 = 2) ∧ 2 < n ∧ b2 / 64 = 2) ∧ 2048 ≤ b0 % 16 * 4096 + b1 % 64 * 64 + b2 % 64 ∧ (b0 % 16 * 4096 + b1 % 64 * 64 + b2 % 64 ≤ 55295 ∨ 57344 ≤ b0 % 16 * 4096 + b1 % 64 * 64 + b2 % 64 ∧ b0 % 16 * 4096 + b1 % 64 * 64 + b2 % 64 ≤ 1114111)
  ·have e:oneQ n b0 b1 b2 b3 = ((b0:Int) % 16 * 4096 + (b1:Int) % 64 * 64 + (b2:Int) % 64,3):=by rw [oneQ_3 (b0:=(b0:Int)) _ _ _ (by omega) (by omega),if_pos (by omega)]
   rw [if_pos c,e]
   simp
   omega
  ·have e:oneQ n b0 b1 b2 b3 = (0,0):=by rw [oneQ_3 (b0:=(b0:Int)) _ _ _ (by omega) (by omega),if_neg (by omega)]
   rw [if_neg c,e]
   simp
 ·rw [decQ_4 b1 b2 b3 (by omega) (by omega)]
  by_cases c:(((1 < n ∧ b1 / 64 = 2) ∧ 2 < n ∧ b2 / 64 = 2) ∧ 3 < n ∧ b3 / 64 = 2) ∧ 65536 ≤ b0 % 8 * 262144 + b1 % 64 * 4096 + b2 % 64 * 64 + b3 % 64 ∧ (b0 % 8 * 262144 + b1 % 64 * 4096 + b2 % 64 * 64 + b3 % 64 ≤ 55295 ∨ 57344 ≤ b0 % 8 * 262144 + b1 % 64 * 4096 + b2 % 64 * 64 + b3 % 64 ∧ b0 % 8 * 262144 + b1 % 64 * 4096 + b2 % 64 * 64 + b3 % 64 ≤ 1114111)
  ·have e:oneQ n b0 b1 b2 b3 = ((b0:Int) % 8 * 262144 + (b1:Int) % 64 * 4096 + (b2:Int) % 64 * 64 + (b3:Int) % 64,4):=by rw [oneQ_4 (b0:=(b0:Int)) _ _ _ (by omega) (by omega),if_pos (by omega)]
   rw [if_pos c,e]
   simp
   omega
  ·have e:oneQ n b0 b1 b2 b3 = (0,0):=by rw [oneQ_4 (b0:=(b0:Int)) _ _ _ (by omega) (by omega),if_neg (by omega)]
   rw [if_neg c,e]
   simp
theorem decode_one (s:ByteArray) (p:Nat) (h:p < s.size) :
  Utf8.decode s p = if (oneL ((bytesZ s).drop p)).2 = 0 then (65533,1) else ((oneL ((bytesZ s).drop p)).1.toNat,(oneL ((bytesZ s).drop p)).2):=by
 rw [oneL_at,decode_Q]
 exact decQ_one _ _ _ _ _ (by omega) (s.get! p).toNat_lt
def hpB (t p:ByteArray):Bool:=decide (p.size ≤ t.size) && ((t.extract 0 p.size).toList == p.toList)
theorem hp_in (t p:ByteArray) (w:World) (ht:t.size ≤ 9223372036854775807) (hp:p.size ≤ 9223372036854775807) :
  Calls Tryz.prog 134 #[.string t,.string p] w fun e w' => e = .returned (.bool (hpB t p)) ∧ w' = w:=by
 by_cases h:p.size ≤ t.size
 ·have hb:=Hi (show hpB t p = ((t.extract 0 p.size).toList == p.toList) from by simp [hpB,h])
  have h1:(p.size:Int) ≤ (t.size:Int):=by omega
  go_enter Tryz.func134,Tryz.ntmps134
  go_wp2
  go_ret
  rw [uh hb]
  exact ⟨rfl,rfl⟩
 ·have hb:=Hi (show hpB t p = false from by simp [hpB,h])
  have h1:¬ (p.size:Int) ≤ (t.size:Int):=by omega
  go_enter Tryz.func134,Tryz.ntmps134
  go_wp2
  go_ret
  rw [uh hb]
  exact ⟨rfl,rfl⟩
theorem hp_any (t p:ByteArray) (w:World) (ht:t.size ≤ 9223372036854775807) (hp:p.size ≤ 9223372036854775807) :
  Calls Tryz.prog 106 #[.string t,.string p] w fun e w' => e = .returned (.bool (hpB t p)) ∧ w' = w:=by
 go_enter Tryz.func106,Tryz.ntmps106
 go_wp2_with fail
 refine (hp_in _ _ _ ht hp).mono ?_
 rintro e w' ⟨rfl,rfl⟩
 go_wp2
 go_ret
 exact ⟨rfl,rfl⟩
theorem extract_list (s:ByteArray) (a b:Nat):(s.extract a b).data.toList = (s.data.toList.drop a).take (b - a):=by
 rw [ByteArray.data_extract,Array.toList_extract]
theorem bytesZ_extract (s:ByteArray) (a b:Nat):bytesZ (s.extract a b) = ((bytesZ s).drop a).take (b - a):=by
 unfold bytesZ
 rw [extract_list,List.map_take,List.map_drop]
theorem hp_fffd (s:ByteArray) (p:Nat) (h:p ≤ s.size):hpB (s.extract p s.size) ⟨#[239,191,189]⟩ = decide (((bytesZ s).drop p).take 3 = [239,191,189]):=by
 have hz:(s.extract p s.size).size = s.size - p:=by simp
 have hp3:(⟨#[239,191,189]⟩:ByteArray).size = 3:=rfl
 have hl:s.data.toList.length = s.size:=by rw [Array.length_toList];rfl
 unfold hpB
 rw [hz,hp3,ByteArray.toList_eq,ByteArray.toList_eq,extract_list,extract_list]
 rw [List.take_of_length_le (l:=s.data.toList.drop p) (by simp)]
 unfold bytesZ
 rw [← List.map_drop]
 have hd:(s.data.toList.drop p).length = s.size - p:=by rw [List.length_drop,hl]
 rw [← hd]
 generalize s.data.toList.drop p = L
 rw [Bool.eq_iff_iff]
 match L with
 | [] => simp
 | [a] => simp
 | [a,b] => simp
 | a :: b :: c :: r =>
  simp only [List.drop_zero,Nat.sub_zero,List.length_cons,List.take_succ_cons,List.take_zero,List.map_cons,Bool.and_eq_true,decide_eq_true_eq,beq_iff_eq,List.cons.injEq,and_true]
  constructor
  ·rintro ⟨_,rfl,rfl,rfl⟩
   exact ⟨rfl,rfl,rfl⟩
  ·rintro ⟨h1,h2,h3⟩
   refine ⟨by omega,?_,?_,?_⟩
   all_goals apply UInt8.toNat_inj.1
   ·show _ = 239
    omega
   ·show _ = 191
    omega
   ·show _ = 189
    omega
theorem put_fffd:putB 65533 = [239,191,189]:=by decide
theorem hp_yes (s:ByteArray) (p:Nat) (h:p ≤ s.size) (ho:(oneL ((bytesZ s).drop p)).2 ≠ 0) (hc:(oneL ((bytesZ s).drop p)).1 = 65533):hpB (s.extract p s.size) ⟨#[239,191,189]⟩ = true:=by
 rw [hp_fffd s p h,decide_eq_true_iff]
 obtain ⟨h1,h2,h3⟩:=one_back _ (byt_drop (bytesZ_byt s) p) ho
 rw [hc,put_fffd] at h2
 rw [h2]
 rfl
theorem hp_no (s:ByteArray) (p:Nat) (h:p ≤ s.size) (ho:(oneL ((bytesZ s).drop p)).2 = 0):hpB (s.extract p s.size) ⟨#[239,191,189]⟩ = false:=by
 rw [hp_fffd s p h,decide_eq_false_iff_not]
 intro e
 have h1:(oneL (putB 65533 ++ ((bytesZ s).drop p).drop 3)).2 = 3:=by rw [one_put 65533 (by unfold scP;omega)];rfl
 rw [put_fffd,← e,List.take_append_drop,ho] at h1
 cases h1
theorem below_iter (w:World) (s:ByteArray) (p:Nat):Below w.heap.size w (w.iter s p):=(Below.refl _ _).alloc (Nat.le_refl _) _
set_option maxHeartbeats 1000000 in
theorem good_any (s:ByteArray) (w:World) (hs:s.size ≤ 9223372036854775807) :
  Calls Tryz.prog 94 #[.string s] w fun e w' => e = .returned (.int .i64 ((decZ (bytesZ s)).2:Int)) ∧ Below w.heap.size w w':=by
 go_enter Tryz.func94,Tryz.ntmps94
 go_wp2
 go_loopw [3] (fun _ wr => ∃ pos f:Nat,wr = w.iter s pos ∧ pos ≤ s.size ∧ s.size - pos ≤ f ∧ Hid (pos + (decF f ((bytesZ s).drop pos)).2 = (decZ (bytesZ s)).2)) (fun _ wr => s.size - wr.iterPos w.heap.size)
 case atStart => exact ⟨0,(bytesZ s).length,rfl,Nat.zero_le _,by rw [bytesZ_len];omega,Hi (by simp [decZ])⟩
 case round =>
  obtain ⟨pos,f,rfl,hpl,hf,hr⟩:=hrel
  by_cases hp:pos < s.size
  ·have hd:=Hi (decode_one s pos hp)
   obtain ⟨ch,wd,hdec⟩:∃ ch wd:Nat,Utf8.decode s pos = (ch,wd):=⟨_,_,rfl⟩
   have hnx:∀ ty,(Instr.next (.pointer (some ⟨w.heap.size,0,none⟩)) true ty).run Tryz.prog (w.iter s pos) = .ok (.tuple #[.bool true,.int .i64 pos,.int .i32 (ch:Int)]) (w.iter s (pos + wd)):=fun ty => by
    have:=run_next_any (P:=Tryz.prog) w s pos ty hp
    rw [hdec] at this
    exact this
   rw [hdec] at hd
   have hex:(s.extract pos s.size).size ≤ 9223372036854775807:=by simp;omega
   by_cases ho:(oneL ((bytesZ s).drop pos)).2 = 0
   ·have hd':=uh hd
    rw [if_pos ho] at hd'
    simp only [Prod.mk.injEq] at hd'
    obtain ⟨rfl,rfl⟩:=hd'
    have hfin:=Hi (show (decZ (bytesZ s)).2 = pos from by have:=uh hr;rw [decF_end _ _ ho] at this;simpa using this.symm)
    have hh:=Hi (hp_no s pos (by omega) ho)
    clear hd hdec ho hr
    go_wp2_with fail
    refine (hp_any _ _ _ hex (by show 3 ≤ _;omega)).mono ?_
    rintro e w' ⟨rfl,rfl⟩
    rw [uh hh]
    go_wp2
    go_ret
    rw [uh hfin]
    exact ⟨rfl,below_iter _ _ _⟩
   ·have hd':=uh hd
    rw [if_neg ho] at hd'
    simp only [Prod.mk.injEq] at hd'
    obtain ⟨hch,hwd⟩:=hd'
    obtain ⟨f',rfl⟩:∃ f',f = f' + 1:=⟨f - 1,by omega⟩
    obtain ⟨hsc,_,_⟩:=one_back _ (byt_drop (bytesZ_byt s) pos) ho
    have hle:=oneL_le ((bytesZ s).drop pos)
    rw [List.length_drop,bytesZ_len] at hle
    have hstep:=Hi (show pos + wd + (decF f' ((bytesZ s).drop (pos + wd))).2 = (decZ (bytesZ s)).2 from by
     have:=uh hr
     rw [decF_go _ _ ho] at this
     simp only at this
     rw [← hwd,List.drop_drop] at this
     omega)
    have w1:1 ≤ wd:=by omega
    have w2:pos + wd ≤ s.size:=by omega
    have hcz:(ch:Int) = (oneL ((bytesZ s).drop pos)).1:=by unfold scP at hsc;omega
    by_cases hff:ch = 65533
    ·have hh:=Hi (hp_yes s pos (by omega) ho (by omega))
     have hb:((ch:Int) == 65533) = true:=by simp;omega
     clear hd hdec ho hr hch hwd hsc hcz hle hff
     go_wp2_with fail
     refine (hp_any _ _ _ hex (by show 3 ≤ _;omega)).mono ?_
     rintro e w' ⟨rfl,rfl⟩
     rw [uh hh]
     go_wp2
     go_roundw
     case rel => exact ⟨pos + wd,f',rfl,w2,by omega,hstep⟩
     case measure => simp;omega
    ·have hb:((ch:Int) == 65533) = false:=by simp;omega
     clear hd hdec ho hr hch hwd hsc hcz hle hff
     go_wp2
     go_roundw
     case rel => exact ⟨pos + wd,f',rfl,w2,by omega,hstep⟩
     case measure => simp;omega
  ·have hfin:=Hi (show (decZ (bytesZ s)).2 = s.size from by
    have:=uh hr
    have e:(bytesZ s).drop pos = []:=List.drop_eq_nil_of_le (by rw [bytesZ_len];omega)
    rw [decF_end _ _ (by rw [e];rfl)] at this
    simp at this
    omega)
   have hnx:∀ ty,(Instr.next (.pointer (some ⟨w.heap.size,0,none⟩)) true ty).run Tryz.prog (w.iter s pos) = .ok (.tuple #[.bool false]) (w.iter s pos):=fun ty => run_next_end w s pos ty hp
   clear hr
   go_wp2
   go_ret
   rw [uh hfin]
   exact ⟨rfl,below_iter _ _ _⟩
theorem runes_flat:∀ (zs:List Int) (s:ByteArray) (pre:List Int) (bound:Nat) (acc:Array Value),zs.all scB = true → bytesZ s = pre ++ zs.flatMap putB → zs.length ≤ bound →
  Conv.runesFrom s bound pre.length acc = acc ++ (zs.map (Value.int .i32)).toArray
 | [],s,pre,bound,acc,_,hb,_ => by
  have hz:pre.length = s.size:=by rw [← bytesZ_len,hb];simp
  cases bound with
  | zero => simp [Conv.runesFrom]
  | succ b => unfold Conv.runesFrom;rw [if_neg (by omega)];simp
 | c :: zs,s,pre,0,acc,_,_,hl => by simp at hl
 | c :: zs,s,pre,b + 1,acc,ha,hb,hl => by
  simp only [List.all_cons,Bool.and_eq_true] at ha
  have hc:=(scB_iff c).1 ha.1
  have hpl:=putB_len c
  simp only [List.flatMap_cons] at hb
  have hlt:pre.length < s.size:=by
   rw [← bytesZ_len,hb];simp;omega
  have hd:(bytesZ s).drop pre.length = putB c ++ zs.flatMap putB:=by rw [hb];simp
  have hdec:=decode_one s pre.length hlt
  rw [hd,one_put c hc] at hdec
  rw [if_neg (by simp only;omega)] at hdec
  unfold Conv.runesFrom
  rw [if_pos hlt,hdec]
  simp only
  have hcz:Int.ofNat c.toNat = c:=by unfold scP at hc;show ((c.toNat:Nat):Int) = c;omega
  rw [hcz]
  have ih:=runes_flat zs s (pre ++ putB c) b (acc.push (.int .i32 c)) ha.2 (by rw [hb,List.append_assoc]) (by simp at hl;omega)
  rw [List.length_append] at ih
  rw [ih]
  simp
theorem flat_ge (zs:List Int):zs.length ≤ (zs.flatMap putB).length:=by
 induction zs with
 | nil => simp
 | cons a l ih => have:=putB_len a;rw [List.flatMap_cons,List.length_append,List.length_cons];omega
theorem runes_good (s:ByteArray):Conv.runesFrom (s.extract 0 (decZ (bytesZ s)).2) (s.extract 0 (decZ (bytesZ s)).2).size 0 #[] = ((decZ (bytesZ s)).1.map (Value.int .i32)).toArray:=by
 obtain ⟨h1,h2,h3,h4⟩:=decF_flat (bytesZ s).length (bytesZ s) (bytesZ_byt s)
 have hb:bytesZ (s.extract 0 (decZ (bytesZ s)).2) = [] ++ (decZ (bytesZ s)).1.flatMap putB:=by
  rw [bytesZ_extract]
  simp only [List.drop_zero,Nat.sub_zero,List.nil_append]
  exact h1.symm
 have hl:(decZ (bytesZ s)).1.length ≤ (s.extract 0 (decZ (bytesZ s)).2).size:=by
  have:=flat_ge (decZ (bytesZ s)).1
  rw [← bytesZ_len,hb]
  simpa using this
 have:=runes_flat (decZ (bytesZ s)).1 (s.extract 0 (decZ (bytesZ s)).2) [] _ #[] h3 hb hl
 simpa using this
theorem decZ_le (l:List Int) (h:Byt l):(decZ l).2 ≤ l.length:=(decF_flat l.length l h).2.1
theorem decZ_len (l:List Int) (h:Byt l):(decZ l).1.length ≤ (decZ l).2:=by
 have h1:=flat_ge (decZ l).1
 have h2:=(decF_flat l.length l h).2.2.2
 exact Nat.le_trans h1 (Nat.le_of_eq h2)
theorem conv_runes_n (s:ByteArray) (w:World) (hs:(decZ (bytesZ s)).1.length ≤ 70368744177664) (g:Nat) (hg:g = (decZ (bytesZ s)).2):∃ V W2,(convert 9 109 (.string (s.extract 0 g))).run Tryz.prog w = .ok V W2 ∧
  W2.ownsRow w.heap.size 21 1 V (decZ (bytesZ s)).1.length ((decZ (bytesZ s)).1.map (Value.int .i32)) ∧ Below w.heap.size w W2:=by
 subst hg
 have hr:=runes_good s
 have hsz:(Conv.runesFrom (s.extract 0 (decZ (bytesZ s)).2) (s.extract 0 (decZ (bytesZ s)).2).size 0 #[]).size = (decZ (bytesZ s)).1.length:=by rw [hr];simp
 have h:=run_runes_of_string (P:=Tryz.prog) w 9 109 21 (s.extract 0 (decZ (bytesZ s)).2) Tryz.underlying9 Tryz.underlying109 Tryz.underlying21 (by rw [hsz];omega)
 rw [hsz,hr] at h
 refine ⟨_,_,h,⟨by simp,.inr ⟨w.heap.size,_,_,rfl,Nat.le_refl _,heap_alloc_new w.drew _,grownCap_ge _ _ _ _,grownCap_le_maxLen _ _ _ _ (by unfold maxLen;omega),?_,?_⟩⟩,?_⟩
 ·have:=grownCap_ge w (decZ (bytesZ s)).1.length 0 21
  simp
  omega
 ·simp
 ·exact (Below.refl _ _).drew.alloc (Nat.le_refl _) _
theorem conv_runes (s:ByteArray) (w:World) (hs:s.size ≤ 70368744177664) (g:Nat) (hg:g = (decZ (bytesZ s)).2):∃ V W2,(convert 9 109 (.string (s.extract 0 g))).run Tryz.prog w = .ok V W2 ∧
  W2.ownsRow w.heap.size 21 1 V (decZ (bytesZ s)).1.length ((decZ (bytesZ s)).1.map (Value.int .i32)) ∧ Below w.heap.size w W2:=
 conv_runes_n s w (by
  have h1:=decZ_len (bytesZ s) (bytesZ_byt s)
  have h2:=decZ_le (bytesZ s) (bytesZ_byt s)
  rw [bytesZ_len] at h2
  omega) g hg
theorem own_low {w:World} {base base':Nat} {e:TypeId} {size:Nat} {v:Value} {n:Nat} {xs:List Value} (h:w.ownsRow base e size v n xs) (hb:base' ≤ base):w.ownsRow base' e size v n xs:=
 ⟨h.1,h.2.imp id (fun ⟨g',r1,r2,r3,r4,r5⟩ => ⟨g',r1,r2,r3,Nat.le_trans hb r4,r5⟩)⟩
set_option maxHeartbeats 1000000 in
theorem decode_bytes (a:Option Addr) (n c:Nat) (zs:List Int) (w:World) (h:Row .u8 w a n c zs) (hz:Byt zs) (hs:n ≤ 70368744177664) :
  Calls Tryz.prog 73 #[.slice a n c] w fun e w' => ∃ v,e = .returned (.tuple #[v,.int .i64 ((decZ zs).2:Int)]) ∧
   w'.ownsRow w.heap.size 21 1 v (decZ zs).1.length ((decZ zs).1.map (Value.int .i32)) ∧ Below w.heap.size w w':=by
 have hsz:(strOfNums zs).size = n:=by rw [strOfNums_size,h.len]
 have hbz:=bytesZ_str zs hz
 have hconv0:=row_string (P:=Tryz.prog) h 24 9 5 Tryz.underlying24 Tryz.underlying5 Tryz.underlying9
 have hg1:=decZ_le zs hz
 rw [h.len] at hg1
 obtain ⟨g,hg⟩:∃ g,g = (decZ zs).2:=⟨_,rfl⟩
 have G:=Hi (good_any (strOfNums zs) w (by omega))
 have C:=Hi (fun W => conv_runes (strOfNums zs) W (by omega) g (by rw [hbz];exact hg))
 rw [hbz] at G C
 rw [← hg] at hg1 G ⊢
 obtain ⟨S,hS⟩:∃ S,S = strOfNums zs:=⟨_,rfl⟩
 rw [← hS] at hsz G C hconv0
 have hle:g ≤ S.size:=by omega
 clear hg hbz hS h hsz
 go_enter Tryz.func73,Tryz.ntmps73
 go_wp2_with fail
 refine (uh G).mono ?_
 rintro e w1 ⟨rfl,hb1⟩
 obtain ⟨V,W2,hconv,hown,hb2⟩:=uh C w1
 have hg1i:(g:Int) ≤ (S.size:Int):=by omega
 clear C G hconv0
 go_wp2
 go_ret2
 exact ⟨V,rfl,own_low hown hb1.size,hb1.trans (hb2.mono hb1.size)⟩
end Go.Proofs.YtepmbmbnlmbhhaaGreat.mem
