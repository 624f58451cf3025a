import Derived.Test.YtdogjghalplohaaGreatDoorJs34
import Derived.Test.YtdogjghalplohaaGreatDoorJs35
import Derived.Test.YtdogjghalplohaaGreatDoorJtx1
namespace Go.Proofs.YtdogjghalplohaaGreatDoor.jsn
open Go.ChangeShapes Go.WideShapes Go.ChangeAt Go.RowKit
set_option linter.unusedVariables false
def hxU (d:UInt8):UInt8:=if d < 10 then 48 + d else 87 + d
def std (c:UInt8):Bool:=decide (32 ≤ c) && decide (c ≠ 34) && decide (c ≠ 92)
def escU (c:UInt8):List UInt8:=
 if c = 34 then [92,34] else if c = 92 then [92,92] else if c = 8 then [92,98] else if c = 9 then [92,116] else if c = 10 then [92,110]
 else if c = 12 then [92,102] else if c = 13 then [92,114] else if 32 ≤ c then [c] else [92,117,48,48,hxU (c >>> 4),hxU (c &&& 15)]
def body (l:List UInt8):List UInt8:=l.flatMap escU
def txt (l:List UInt8):List UInt8:=34 :: (body l ++ [34])
theorem body_app (a b:List UInt8):body (a ++ b) = body a ++ body b:=by simp [body]
theorem body_nil:body [] = []:=rfl
theorem body_one (c:UInt8):body [c] = escU c:=by simp [body]
theorem esc_std (c:UInt8) (h:std c = true):escU c = [c]:=by
 have:∀ n,n < 256 → std (UInt8.ofNat n) = true → escU (UInt8.ofNat n) = [UInt8.ofNat n]:=by decide +kernel
 have e:UInt8.ofNat c.toNat = c:=UInt8.ofNat_toNat
 have:=this c.toNat (UInt8.toNat_lt c)
 rw [e] at this
 exact this h
theorem body_std:∀ (l:List UInt8),(∀ c ∈ l,std c = true) → body l = l
 | [],_ => rfl
 | c :: l,h => by
  have e:body (c :: l) = escU c ++ body l:=by simp [body]
  rw [e,esc_std c (h c (by simp)),body_std l (fun d hd => h d (by simp [hd]))]
  rfl
theorem esc_len (c:UInt8):(escU c).length ≤ 6:=by unfold escU;repeat (first | split | simp)
theorem body_len:∀ (l:List UInt8),(body l).length ≤ 6 * l.length
 | [] => by simp [body]
 | c :: l => by
  have e:body (c :: l) = escU c ++ body l:=by simp [body]
  have:=esc_len c
  have:=body_len l
  rw [e,List.length_append,List.length_cons]
  omega
theorem body_step {l:List UInt8} {f i:Nat} (hf:f ≤ i) (hi:i < l.length) (h:∀ c ∈ (l.drop f).take (i - f),std c = true) :
  body (l.take i) = body (l.take f) ++ (l.drop f).take (i - f):=by
 have e:l.take i = l.take f ++ (l.drop f).take (i - f):=by
  rw [← List.take_add];congr 1;omega
 rw [e,body_app,body_std _ h]
theorem body_last {l:List UInt8} {f:Nat} (h:∀ c ∈ l.drop f,std c = true):body l = body (l.take f) ++ l.drop f:=by
 have e:l = l.take f ++ l.drop f:=(List.take_append_drop f l).symm
 conv => lhs;rw [e,body_app,body_std _ h]
theorem body_snoc {l:List UInt8} {i:Nat} (hi:i < l.length):body (l.take (i + 1)) = body (l.take i) ++ escU (l.getD i 0):=by
 have e:l.take (i + 1) = l.take i ++ [l.getD i 0]:=by
  rw [List.take_add_one];simp [List.getD,hi]
 rw [e,body_app,body_one]
theorem std_more {l:List UInt8} {f i:Nat} (hf:f ≤ i) (hi:i < l.length) (h:∀ c ∈ (l.drop f).take (i - f),std c = true) (hc:std (l.getD i 0) = true) :
  ∀ c ∈ (l.drop f).take (i + 1 - f),std c = true:=by
 have e:(l.drop f).take (i + 1 - f) = (l.drop f).take (i - f) ++ [l.getD i 0]:=by
  have:i + 1 - f = (i - f) + 1:=by omega
  rw [this,List.take_add_one]
  have hh:f + (i - f) = i:=by omega
  simp [List.getD,hi,List.getElem?_drop,hh]
 rw [e]
 intro c hm
 rcases List.mem_append.1 hm with hm | hm
 ·exact h c hm
 ·simp only [List.mem_singleton] at hm
  rw [hm];exact hc
theorem std_full {l:List UInt8} {f:Nat} (h:∀ c ∈ (l.drop f).take (l.length - f),std c = true):∀ c ∈ l.drop f,std c = true:=by
 rw [List.take_of_length_le (by simp)] at h
 exact h
end Go.Proofs.YtdogjghalplohaaGreatDoor.jsn
