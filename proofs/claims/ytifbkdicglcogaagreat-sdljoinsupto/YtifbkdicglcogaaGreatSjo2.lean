import Derived.Test.YtifbkdicglcogaaGreatSjo1
import Derived.WalkLawsBesides
import Derived.Laws.RangeAny
import Derived.Laws.IdiomStrings
set_option linter.unusedVariables false
set_option linter.unusedSimpArgs false
namespace Go.Proofs.YtifbkdicglcogaaGreat.mem
open Go.ChangeShapes Go.WideShapes Go.ChangeAt Go.RowKit
open ints (Hi uh)
def scP (c:Int):Prop:=(0≤c∧c≤55295)∨(57344≤c∧c≤1114111)
def scB (c:Int):Bool:=(decide (0≤c) && decide (c≤55295)) || (decide (57344≤c) && decide (c≤1114111))
theorem zdB (c:Int):scB c=true ↔ scP c:=by simp[scB,scP]
def putB (c:Int):List Int:=
 if c<128 then [c]
 else if c<2048 then [192+c / 64,128+c % 64]
 else if c<65536 then [224+c / 4096,128+c / 64 % 64,128+c % 64]
 else [240+c / 262144,128+c / 4096 % 64,128+c / 64 % 64,128+c % 64]
theorem zfO (c:Int):1≤(putB c).length∧(putB c).length≤4:=by
 unfold putB;repeat' split
 all_goals simp
theorem zeE {c:Int} (h:c<128):putB c=[c]:=if_pos h
theorem zgD {c:Int} (h0:128≤c) (h:c<2048):putB c=[192+c / 64,128+c % 64]:=by
 unfold putB;rw[if_neg (by omega),if_pos h]
theorem zgE {c:Int} (h0:2048≤c) (h:c<65536):putB c=[224+c / 4096,128+c / 64 % 64,128+c % 64]:=by
 unfold putB;rw[if_neg (by omega),if_neg (by omega),if_pos h]
theorem zkx {c:Int} (h0:65536≤c):putB c=[240+c / 262144,128+c / 4096 % 64,128+c / 64 % 64,128+c % 64]:=by
 unfold putB;rw[if_neg (by omega),if_neg (by omega),if_neg (by omega)]
theorem zdp (c:Int) (w:World) (h:scP c) :
  Calls Tryz.prog 38 #[.int .i32 c] w fun e w'=>e = .returned (.bool true)∧w'=w:=by
 rcases h with ⟨h1,h2⟩ | ⟨h1,h2⟩
 ·have a1:c<55296:=by omega
  go_enter Tryz.func38,Tryz.ntmps38
  go_wp2
  go_ret
  exact⟨rfl,rfl⟩
 ·have a1:¬ c<55296:=by omega
  have a2:0≤c:=by omega
  have a3:57343<c:=by omega
  go_enter Tryz.func38,Tryz.ntmps38
  go_wp2
  go_ret
  exact⟨rfl,rfl⟩
theorem zfX (c:Int) (w:World) (h:¬ scP c) :
  Calls Tryz.prog 38 #[.int .i32 c] w fun e w'=>e = .returned (.bool false)∧w'=w:=by
 unfold scP at h
 by_cases h1:0≤c
 ·have a1:¬ c<55296:=by omega
  by_cases h2:57343<c
  ·have a3:¬ c≤1114111:=by omega
   clear h
   go_enter Tryz.func38,Tryz.ntmps38
   go_wp2
   go_ret
   exact⟨rfl,rfl⟩
  ·clear h
   go_enter Tryz.func38,Tryz.ntmps38
   go_wp2
   go_ret
   exact⟨rfl,rfl⟩
 ·have a2:¬ 57343<c:=by omega
  clear h
  go_enter Tryz.func38,Tryz.ntmps38
  go_wp2
  go_ret
  exact⟨rfl,rfl⟩
set_option maxHeartbeats 4000000 in
set_option maxRecDepth 100000 in
theorem znm (B:Nat) (v:Value) (n:Nat) (xs:List Value) (r:Int) (h0:128≤r) (h1:r≤2047) (w:World) (hown:w.ownsRow B 5 1 v n xs) (hlen:n+4≤140737488355328) (hBw:B≤w.heap.size) :
  Calls Tryz.prog 66 #[v,.int .i32 r] w fun e w'=>∃ v',e = .returned v'∧w'.ownsRow B 5 1 v' (n+2) (xs ++ [.int .u8 (192+r / 64),.int .u8 (128+r % 64)])∧∃ o,(w.alloc o).grownBy w' v.ownBlock:=by
 obtain⟨i0,hi,hz0,hz1,hz2⟩:=info_parts info8
 go_enter Tryz.func66,Tryz.ntmps66
 go_wp2_with (at_builtin;refine wpList_append_own _ rfl _ _ 22 rfl B 5 i0 (.int .u8 0) 1 1 Tryz.underlying22 hi hz0 hz1 hz2 rfl (by decide) _ _ _ rfl (hown.alloc _) ⟨w.heap.size,0,none⟩ 2 2 [.int .u8 (192+r / 64),.int .u8 (128+r % 64)] rfl rfl ?c1 ?c2 ?c3 ?c4 ?c5 ?_)
 case c1 =>
  intro j u hj
  match j,hj with
  | 0,hj=>simp at hj;subst hj;simp[Addr.add]
  | 1,hj=>simp at hj;subst hj;simp[Addr.add]
  | (j+2),hj=>simp at hj
 case c2=>intro u hu;simp at hu;rcases hu with rfl | rfl <;> rfl
 case c3=>unfold maxLen;omega
 case c4=>omega
 case c5=>simp;omega
 intro v' w2 hown' hgrow _
 go_wp2
 go_ret
 exact⟨_,rfl,hown',_,hgrow⟩
set_option maxHeartbeats 4000000 in
set_option maxRecDepth 100000 in
theorem zo2 (B:Nat) (v:Value) (n:Nat) (xs:List Value) (r:Int) (h0:2048≤r) (h1:r<55296) (w:World) (hown:w.ownsRow B 5 1 v n xs) (hlen:n+4≤140737488355328) (hBw:B≤w.heap.size) :
  Calls Tryz.prog 66 #[v,.int .i32 r] w fun e w'=>∃ v',e = .returned v'∧w'.ownsRow B 5 1 v' (n+3) (xs ++ [.int .u8 (224+r / 4096),.int .u8 (128+r / 64 % 64),.int .u8 (128+r % 64)])∧∃ o,(w.alloc o).grownBy w' v.ownBlock:=by
 obtain⟨i0,hi,hz0,hz1,hz2⟩:=info_parts info8
 go_enter Tryz.func66,Tryz.ntmps66
 go_wp2_with (at_builtin;refine wpList_append_own _ rfl _ _ 22 rfl B 5 i0 (.int .u8 0) 1 1 Tryz.underlying22 hi hz0 hz1 hz2 rfl (by decide) _ _ _ rfl (hown.alloc _) ⟨w.heap.size,0,none⟩ 3 3 [.int .u8 (224+r / 4096),.int .u8 (128+r / 64 % 64),.int .u8 (128+r % 64)] rfl rfl ?c1 ?c2 ?c3 ?c4 ?c5 ?_)
 case c1 =>
  intro j u hj
  match j,hj with
  | 0,hj=>simp at hj;subst hj;simp[Addr.add]
  | 1,hj=>simp at hj;subst hj;simp[Addr.add]
  | 2,hj=>simp at hj;subst hj;simp[Addr.add]
  | (j+3),hj=>simp at hj
 case c2=>intro u hu;simp at hu;rcases hu with rfl | rfl | rfl <;> rfl
 case c3=>unfold maxLen;omega
 case c4=>omega
 case c5=>simp;omega
 intro v' w2 hown' hgrow _
 go_wp2
 go_ret
 exact⟨_,rfl,hown',_,hgrow⟩
set_option maxHeartbeats 4000000 in
set_option maxRecDepth 100000 in
theorem zo1 (B:Nat) (v:Value) (n:Nat) (xs:List Value) (r:Int) (h0:57343<r) (h1:r≤65535) (w:World) (hown:w.ownsRow B 5 1 v n xs) (hlen:n+4≤140737488355328) (hBw:B≤w.heap.size) :
  Calls Tryz.prog 66 #[v,.int .i32 r] w fun e w'=>∃ v',e = .returned v'∧w'.ownsRow B 5 1 v' (n+3) (xs ++ [.int .u8 (224+r / 4096),.int .u8 (128+r / 64 % 64),.int .u8 (128+r % 64)])∧∃ o,(w.alloc o).grownBy w' v.ownBlock:=by
 obtain⟨i0,hi,hz0,hz1,hz2⟩:=info_parts info8
 go_enter Tryz.func66,Tryz.ntmps66
 go_wp2_with (at_builtin;refine wpList_append_own _ rfl _ _ 22 rfl B 5 i0 (.int .u8 0) 1 1 Tryz.underlying22 hi hz0 hz1 hz2 rfl (by decide) _ _ _ rfl (hown.alloc _) ⟨w.heap.size,0,none⟩ 3 3 [.int .u8 (224+r / 4096),.int .u8 (128+r / 64 % 64),.int .u8 (128+r % 64)] rfl rfl ?c1 ?c2 ?c3 ?c4 ?c5 ?_)
 case c1 =>
  intro j u hj
  match j,hj with
  | 0,hj=>simp at hj;subst hj;simp[Addr.add]
  | 1,hj=>simp at hj;subst hj;simp[Addr.add]
  | 2,hj=>simp at hj;subst hj;simp[Addr.add]
  | (j+3),hj=>simp at hj
 case c2=>intro u hu;simp at hu;rcases hu with rfl | rfl | rfl <;> rfl
 case c3=>unfold maxLen;omega
 case c4=>omega
 case c5=>simp;omega
 intro v' w2 hown' hgrow _
 go_wp2
 go_ret
 exact⟨_,rfl,hown',_,hgrow⟩
set_option maxHeartbeats 4000000 in
set_option maxRecDepth 100000 in
theorem zkZ (B:Nat) (v:Value) (n:Nat) (xs:List Value) (r:Int) (h0:65536≤r) (h1:r≤1114111) (w:World) (hown:w.ownsRow B 5 1 v n xs) (hlen:n+4≤140737488355328) (hBw:B≤w.heap.size) :
  Calls Tryz.prog 66 #[v,.int .i32 r] w fun e w'=>∃ v',e = .returned v'∧w'.ownsRow B 5 1 v' (n+4) (xs ++ [.int .u8 (240+r / 262144),.int .u8 (128+r / 4096 % 64),.int .u8 (128+r / 64 % 64),.int .u8 (128+r % 64)])∧∃ o,(w.alloc o).grownBy w' v.ownBlock:=by
 obtain⟨i0,hi,hz0,hz1,hz2⟩:=info_parts info8
 go_enter Tryz.func66,Tryz.ntmps66
 go_wp2_with (at_builtin;refine wpList_append_own _ rfl _ _ 22 rfl B 5 i0 (.int .u8 0) 1 1 Tryz.underlying22 hi hz0 hz1 hz2 rfl (by decide) _ _ _ rfl (hown.alloc _) ⟨w.heap.size,0,none⟩ 4 4 [.int .u8 (240+r / 262144),.int .u8 (128+r / 4096 % 64),.int .u8 (128+r / 64 % 64),.int .u8 (128+r % 64)] rfl rfl ?c1 ?c2 ?c3 ?c4 ?c5 ?_)
 case c1 =>
  intro j u hj
  match j,hj with
  | 0,hj=>simp at hj;subst hj;simp[Addr.add]
  | 1,hj=>simp at hj;subst hj;simp[Addr.add]
  | 2,hj=>simp at hj;subst hj;simp[Addr.add]
  | 3,hj=>simp at hj;subst hj;simp[Addr.add]
  | (j+4),hj=>simp at hj
 case c2=>intro u hu;simp at hu;rcases hu with rfl | rfl | rfl | rfl <;> rfl
 case c3=>unfold maxLen;omega
 case c4=>omega
 case c5=>simp;omega
 intro v' w2 hown' hgrow _
 go_wp2
 go_ret
 exact⟨_,rfl,hown',_,hgrow⟩
set_option maxHeartbeats 4000000 in
set_option maxRecDepth 100000 in
theorem zoY (B:Nat) (v:Value) (n:Nat) (xs:List Value) (r:Int) (h0:0≤r) (h1:r≤127) (w:World) (hown:w.ownsRow B 5 1 v n xs) (hlen:n+4≤140737488355328) (hBw:B≤w.heap.size) :
  Calls Tryz.prog 39 #[v,.int .i32 r] w fun e w'=>∃ v',e = .returned v'∧w'.ownsRow B 5 1 v' (n+1) (xs ++ [.int .u8 r])∧∃ o,(w.alloc o).grownBy w' v.ownBlock:=by
 obtain⟨i0,hi,hz0,hz1,hz2⟩:=info_parts info8
 go_enter Tryz.func39,Tryz.ntmps39
 go_wp2_with (at_builtin;refine wpList_append_own _ rfl _ _ 22 rfl B 5 i0 (.int .u8 0) 1 1 Tryz.underlying22 hi hz0 hz1 hz2 rfl (by decide) _ _ _ rfl (hown.alloc _) ⟨w.heap.size,0,none⟩ 1 1 [.int .u8 r] rfl rfl ?c1 ?c2 ?c3 ?c4 ?c5 ?_)
 case c1 =>
  intro j u hj
  match j,hj with
  | 0,hj=>simp at hj;subst hj;simp[Addr.add]
  | (j+1),hj=>simp at hj
 case c2=>intro u hu;simp at hu;subst hu;rfl
 case c3=>unfold maxLen;omega
 case c4=>omega
 case c5=>simp;omega
 intro v' w2 hown' hgrow _
 go_wp2
 go_ret
 exact⟨_,rfl,hown',_,hgrow⟩
theorem zeQ (B:Nat) (v:Value) (n:Nat) (xs:List Int) (r:Int) (h:scP r) (w:World) (hown:w.ownsRow B 5 1 v n (xs.map (Value.int .u8))) (hlen:n+4≤140737488355328) (hBw:B≤w.heap.size) :
  Calls Tryz.prog 39 #[v,.int .i32 r] w fun e w'=>∃ v',e = .returned v'∧w'.ownsRow B 5 1 v' (n+(putB r).length) ((xs ++ putB r).map (Value.int .u8))∧∃ o,(w.alloc o).grownBy w' v.ownBlock:=by
 by_cases h1:r<128
 ·have h0:0≤r:=by unfold scP at h;omega
  refine (zoY B v n _ r h0 (by omega) w hown hlen hBw).mono ?_
  rintro e w' ⟨v',rfl,h2,h3⟩;exact⟨v',rfl,by rw[zeE h1];simpa using h2,h3⟩
 by_cases h2:r<2048
 ·go_enter Tryz.func39,Tryz.ntmps39
  go_wp2_with fail
  refine (znm B v n _ r (by omega) (by omega) w hown hlen hBw).mono ?_
  rintro e w' ⟨v',rfl,h3,h4⟩
  go_wp2
  go_ret
  exact⟨v',rfl,by rw[zgD (by omega) h2];simpa using h3,h4⟩
 by_cases h3:r<65536
 ·by_cases h5:r<55296
  ·go_enter Tryz.func39,Tryz.ntmps39
   go_wp2_with fail
   refine (zo2 B v n _ r (by omega) (by omega) w hown hlen hBw).mono ?_
   rintro e w' ⟨v',rfl,h3',h4⟩
   go_wp2
   go_ret
   exact⟨v',rfl,by rw[zgE (by omega) h3];simpa using h3',h4⟩
  ·have h6:57343<r:=by unfold scP at h;omega
   go_enter Tryz.func39,Tryz.ntmps39
   go_wp2_with fail
   refine (zo1 B v n _ r h6 (by omega) w hown hlen hBw).mono ?_
   rintro e w' ⟨v',rfl,h3',h4⟩
   go_wp2
   go_ret
   exact⟨v',rfl,by rw[zgE (by omega) h3];simpa using h3',h4⟩
 have h6:r≤1114111:=by unfold scP at h;omega
 go_enter Tryz.func39,Tryz.ntmps39
 go_wp2_with fail
 refine (zkZ B v n _ r (by omega) h6 w hown hlen hBw).mono ?_
 rintro e w' ⟨v',rfl,h3',h4⟩
 go_wp2
 go_ret
 exact⟨v',rfl,by rw[zkx (by omega)];simpa using h3',h4⟩
def encS (zs:List Int):ByteArray:=if zs.all scB=true then strOfNums (zs.flatMap putB) else ⟨#[]⟩
theorem zlp {zs:List Int} (h:zs.all scB=true):encS zs=strOfNums (zs.flatMap putB):=if_pos h
theorem znK {zs:List Int} (h:zs.all scB=false):encS zs=⟨#[]⟩:=if_neg (by rw[h];simp)
def flat (zs:List Int) (k:Nat):List Int:=(zs.take k).flatMap putB
theorem zjH (zs:List Int) (k:Nat) (h:k<zs.length):flat zs (k+1)=flat zs k ++ putB (zs.getD k 0):=by
 unfold flat;rw[List.take_succ_eq_append_getElem h,List.flatMap_append];simp[List.getD,h]
theorem zlw (zs:List Int) (k:Nat):(flat zs k).length≤4 * k:=by
 unfold flat
 have:∀ l:List Int,(l.flatMap putB).length≤4 * l.length:=by
  intro l
  induction l with
  | nil=>simp
  | cons a l ih=>have:=zfO a;rw[List.flatMap_cons,List.length_append,List.length_cons];omega
 have h1:=this (zs.take k);have h2:(zs.take k).length≤k:=List.length_take_le _ _;omega
theorem zlv (zs:List Int) (k:Nat) (h:zs.length≤k):flat zs k=zs.flatMap putB:=by
 unfold flat;rw[List.take_of_length_le h]
theorem zoX (zs:List Int) (h:∀ j,j<zs.length→scP (zs.getD j 0)):zs.all scB=true:=by
 rw[List.all_eq_true];intro x hx;obtain⟨i,hi,rfl⟩:=List.mem_iff_getElem.1 hx;have:=h i hi;rw[zdB]
 simpa[List.getD,hi] using this
theorem zoa (zs:List Int) (k:Nat) (hk:k<zs.length) (h:¬ scP (zs.getD k 0)):zs.all scB=false:=by
 rw[List.all_eq_false];refine⟨zs.getD k 0,by simp[List.getD,hk],?_⟩
 intro e;exact h ((zdB _).1 e)
set_option maxHeartbeats 1000000 in
theorem zbV (a:Option Addr) (n c:Nat) (zs:List Int) (w:World) (h:Row .i32 w a n c zs) (hn:4 * n≤140737488355328) :
  Calls Tryz.prog 26 #[.slice a n c] w fun e w'=>e = .returned (.tuple #[.string (encS zs),.bool (zs.all scB)])∧Below w.heap.size w w':=by
 go_enter Tryz.func26,Tryz.ntmps26
 go_wp2
 go_loopw [4,9] (fun v i wr=>∃ k:Nat,k≤n∧i = .int .i64 k∧wr.ownsRow w.heap.size 5 1 v (flat zs k).length ((flat zs k).map (Value.int .u8))∧Below w.heap.size w wr∧Hid (∀ j,j<k→scP (zs.getD j 0))) (fun _ i _=>n - (intOf i).toNat)
 case atStart=>exact⟨0,Nat.zero_le _,rfl,World.ownsRow_nil _ _ _ _,Below.refl _ _,Hi (fun j hj=>by omega)⟩
 case round =>
  obtain⟨k,hk,rfl,hown,hbel,hall⟩:=hrel;have hlen:=h.len;have HL:=Hi hlen;clear hlen
  by_cases hlt:k<n
  ·rcases h.at_ with h0 | ⟨b,off,rfl,hbw,hcell⟩
   ·omega
   have c1:=(hbel.cell (p:=⟨b,off+k,none⟩) hbw).trans (hcell k hlt);obtain⟨x,hx⟩:∃ x,x=zs.getD k 0:=⟨_,rfl⟩;rw[← hx] at c1;have Hx:=Hi hx;clear hx hcell
   by_cases hs:scP x
   ·have hfl:=zlw zs k
    have R:=Hi (zeQ w.heap.size _ _ (flat zs k) x hs wr hown (by omega) hbel.size)
    have Hlt:=Hi hown.lt;clear hown
    go_wp2_with fail
    refine (zdp _ _ hs).mono ?_
    rintro e w' ⟨rfl,rfl⟩
    go_wp2_with fail
    refine (uh R).mono ?_
    rintro e w2 ⟨v',rfl,hown',o,hgrow⟩;clear R
    go_wp2
    go_roundw
    case rel =>
     refine⟨k+1,by omega,by go_num,?_,?_,Hi (fun j hj=>?_)⟩
     ·rw[zjH zs k (by rw[uh HL];exact hlt),← uh Hx]
      simpa using hown'
     ·exact (hbel.alloc hbel.size o).grown hgrow (by have:=hbel.size;simp;omega) (fun k hk=>(uh Hlt k hk).1)
     ·by_cases hjk:j<k
      ·exact uh hall j hjk
      ·obtain rfl:j=k:=by omega
       rw[← uh Hx];exact hs
    case measure=>simp[intOf];omega
   ·have hnot:=Hi (zoa zs k (by rw[uh HL];exact hlt) (by rw[← uh Hx];exact hs))
    go_wp2_with fail
    refine (zfX _ _ hs).mono ?_
    rintro e w' ⟨rfl,rfl⟩
    go_wp2
    go_ret2
    rw[uh hnot,znK (uh hnot)];exact⟨rfl,hbel⟩
  ·have hyes:=Hi (zoX zs (fun j hj=>uh hall j (by rw[uh HL] at hj;omega)))
   have hfl:=Hi (zlv zs k (by rw[uh HL];omega))
   obtain⟨a',cap',rfl,hrow⟩:=zcR hown;have hconv:=zfc (P:=Tryz.prog) hrow 22 9 5 Tryz.underlying22 Tryz.underlying5 Tryz.underlying9;clear hown
   go_wp2
   go_ret2
   rw[uh hyes,zlp (uh hyes),← uh hfl];exact⟨rfl,hbel⟩
def prB (l:List Int) (k:Nat):Bool:=decide (k+1<l.length) && (l.getD k 0 == 13) && (l.getD (k+1) 0 == 10)
def enB (l:List Int) (k:Nat):Bool:=(l.getD k 0 == 10) || ((l.getD k 0 == 13) && !prB l k)
theorem ziW (a:Option Addr) (n c:Nat) (w:World) :
  Calls Tryz.prog 76 #[.slice a n c,.int .i64 (-1)] w fun e w'=>e = .returned (.bool false)∧w'=w:=by
 go_enter Tryz.func76,Tryz.ntmps76
 go_wp2
 go_ret
 exact⟨rfl,rfl⟩
theorem zfa (a:Option Addr) (n c:Nat) (l:List Int) (k:Nat) (w:World) (h:Row .i32 w a n c l) (hn:n≤9223372036854775806) (hk:k≤n) :
  Calls Tryz.prog 76 #[.slice a n c,.int .i64 (k:Int)] w fun e w'=>e = .returned (.bool (prB l k))∧w'=w:=by
 have hl:=h.len
 by_cases h1:k+1<n
 ·rcases h.at_ with h0 | ⟨b,off,rfl,hbw,hcell⟩
  ·omega
  have c1:=hcell k (by omega)
  have c2:=hcell (k+1) h1;have e:prB l k=((l.getD k 0 == 13) && (l.getD (k+1) 0 == 10)):=by unfold prB;rw[hl];simp[h1]
  generalize l.getD k 0=x at *
  generalize l.getD (k+1) 0=y at *
  have E:=Hi e;have h1i:(k:Int)+1<(n:Int):=by omega
  clear hcell e hl h
  cases hx:(x == 13)
  ·have E2:=Hi (show prB l k=false from by rw[uh E,hx];rfl)
   go_enter Tryz.func76,Tryz.ntmps76
   go_wp2
   go_ret
   rw[uh E2];exact⟨rfl,rfl⟩
  ·cases hy:(y == 10)
   ·have E2:=Hi (show prB l k=false from by rw[uh E,hx,hy];rfl)
    go_enter Tryz.func76,Tryz.ntmps76
    go_wp2
    go_ret
    rw[uh E2];exact⟨rfl,rfl⟩
   ·have E2:=Hi (show prB l k=true from by rw[uh E,hx,hy];rfl)
    go_enter Tryz.func76,Tryz.ntmps76
    go_wp2
    go_ret
    rw[uh E2];exact⟨rfl,rfl⟩
 ·have E2:=Hi (show prB l k=false from by unfold prB;rw[hl];simp[h1])
  have h1i:¬ (k:Int)+1<(n:Int):=by omega
  clear hl h
  go_enter Tryz.func76,Tryz.ntmps76
  go_wp2
  go_ret
  rw[uh E2];exact⟨rfl,rfl⟩
theorem zhO (a:Option Addr) (n c:Nat) (l:List Int) (k:Nat) (w:World) (h:Row .i32 w a n c l) (hn:n≤9223372036854775806) (hk:k<n) :
  Calls Tryz.prog 53 #[.slice a n c,.int .i64 (k:Int)] w fun e w'=>e = .returned (.bool (enB l k))∧w'=w:=by
 have P:=Hi (zfa a n c l k w h hn (by omega))
 rcases h.at_ with h0 | ⟨b,off,rfl,hbw,hcell⟩
 ·omega
 have c1:=hcell k hk;have E:=Hi (show enB l k=((l.getD k 0 == 10) || ((l.getD k 0 == 13) && !prB l k)) from rfl)
 generalize l.getD k 0=x at *
 generalize prB l k=p at *
 have hki:(k:Int)<(n:Int):=by omega
 clear hcell h
 cases hx:(x == 10)
 ·cases hy:(x == 13)
  ·have E2:=Hi (show enB l k=false from by rw[uh E,hx,hy];rfl)
   go_enter Tryz.func53,Tryz.ntmps53
   go_wp2
   go_ret
   rw[uh E2];exact⟨rfl,rfl⟩
  ·have E2:=Hi (show enB l k = !p from by rw[uh E,hx,hy];simp)
   go_enter Tryz.func53,Tryz.ntmps53
   go_wp2_with fail
   refine (uh P).mono ?_
   rintro e w' ⟨rfl,rfl⟩
   go_wp2
   go_ret
   rw[uh E2];exact⟨rfl,rfl⟩
 ·have E2:=Hi (show enB l k=true from by rw[uh E,hx];rfl)
  go_enter Tryz.func53,Tryz.ntmps53
  go_wp2
  go_ret
  rw[uh E2];exact⟨rfl,rfl⟩
theorem ziB (a:Option Addr) (n c:Nat) (l:List Int) (k:Nat) (x y:Int) (w:World) (h:Row .i32 w a n c l) (hn:n≤9223372036854775806) (hk:k<n) (hx0:0≤x) (hx1:x≤4611686018427387904) (hy0:0≤y) (hy1:y≤4611686018427387904) :
  Calls Tryz.prog 35 #[.agg #[.int .i64 x,.int .i64 y],.slice a n c,.int .i64 (k:Int)] w fun e w' =>
   e = .returned (.agg #[.int .i64 (if enB l k then x+1 else x),.int .i64 (if enB l k then 1 else y+1)])∧Below w.heap.size w w':=by
 obtain⟨o1,ho1⟩:∃ o,o=Obj.cells #[.int .i64 x,.int .i64 y] 37 (0,0):=⟨_,rfl⟩;obtain⟨o2,ho2⟩:∃ o,o=Obj.cells #[.int .i64 0,.int .i64 0] 37 (0,0):=⟨_,rfl⟩;have hb2:Below w.heap.size w ((w.alloc o1).alloc o2):=((Below.refl _ _).alloc (lr _) o1).alloc (by simp) o2
 have P:=Hi (zhO a n c l k ((w.alloc o1).alloc o2) (h.below hb2) hn hk);rw[ho1,ho2] at P
 cases hp:enB l k
 ·rw[hp] at P
  go_enter Tryz.func35,Tryz.ntmps35
  go_wp2_with fail
  refine (uh P).mono ?_
  rintro e w' ⟨rfl,rfl⟩
  go_wp2
  exact bodyPost_ret (v:=.agg #[.int .i64 x,.int .i64 (y+1)]) (by simp[results,Tryz.results35,go_sem]) rfl ⟨rfl,((Below.refl _ _).alloc (lr _) _).alloc (by simp) _⟩
 ·rw[hp] at P
  go_enter Tryz.func35,Tryz.ntmps35
  go_wp2_with fail
  refine (uh P).mono ?_
  rintro e w' ⟨rfl,rfl⟩
  go_wp2
  exact bodyPost_ret (v:=.agg #[.int .i64 (x+1),.int .i64 1]) (by simp[results,Tryz.results35,go_sem]) rfl ⟨rfl,((Below.refl _ _).alloc (lr _) _).alloc (by simp) _⟩
def posT (l:List Int):Nat→Int × Int
 | 0=>(1,1)
 | k+1=>(if enB l k then (posT l k).1+1 else (posT l k).1,if enB l k then 1 else (posT l k).2+1)
theorem zop (l:List Int) (k:Nat):1≤(posT l k).1∧(posT l k).1≤k+1∧1≤(posT l k).2∧(posT l k).2≤k+1:=by
 induction k with
 | zero=>simp[posT]
 | succ k ih=>simp only[posT];split <;> omega
def posCells (ps:List (Int × Int)):List Value:=ps.flatMap fun p=>[.int .i64 p.1,.int .i64 p.2]
def plist (l:List Int) (k:Nat):List (Int × Int):=(List.range k).map (posT l)
theorem ziY (l:List Int) (k:Nat):posCells (plist l (k+1))=posCells (plist l k) ++ [.int .i64 (posT l k).1,.int .i64 (posT l k).2]:=by
 unfold plist posCells;rw[List.range_succ,List.map_append,List.flatMap_append];simp
theorem infoPos:(Tryz.prog.info? 37).map (fun i=>(i.zero,i.size,i.bytes))=some (some (.agg #[.int .i64 0,.int .i64 0]),2,16):=by kernel_rfl
theorem zhC (w:World) (x y:Value) (t:TypeId):∀ j u,[x,y][j]? = some u→(w.alloc (.cells #[x,y] t)).cell? ((⟨w.heap.size,0,none⟩:Addr).add j)=some u:=by
 intro j u hj
 match j,hj with
 | 0,hj=>simp at hj;subst hj;simp[Addr.add]
 | 1,hj=>simp at hj;subst hj;simp[Addr.add]
 | (j+2),hj=>simp at hj
theorem zkf (x y:Int):∀ u ∈ [Value.int .i64 x,Value.int .i64 y],u.oneCell'=true:=by
 intro u hu;simp at hu;rcases hu with rfl | rfl <;> rfl
def Box (w:World) (B:Nat) (x y:Int):Prop:=w.heap[B]? = some (.cells #[.int .i64 x,.int .i64 y] 37 (0,0))
theorem Box.cells {w:World} {B:Nat} {x y:Int} (h:Box w B x y):w.cell? ⟨B,0,none⟩=some (.int .i64 x)∧w.cell? ⟨B,1,none⟩=some (.int .i64 y)∧w.frozen? ⟨B,0,none⟩=false∧w.frozen? ⟨B,1,none⟩=false:=by
 unfold Box at h;refine⟨?_,?_,?_,?_⟩
 ·simp[World.cell?,h]
 ·simp[World.cell?,h]
 ·simp[World.frozen?,h]
 ·simp[World.frozen?,h]
theorem Box.lt {w:World} {B:Nat} {x y:Int} (h:Box w B x y):B<w.heap.size:=(Array.getElem?_eq_some_iff.1 h).1
theorem Box.below {w w':World} {B:Nat} {x y:Int} (h:Box w B x y) (hb:Below w.heap.size w w'):Box w' B x y:=(hb.block B h.lt).trans h
theorem Box.set {w:World} {B:Nat} {x y:Int} (h:Box w B x y) (x' y':Int):Box ((w.setCell ⟨B,0,none⟩ (.int .i64 x')).setCell ⟨B,1,none⟩ (.int .i64 y')) B x' y':=by
 unfold Box at *;simp[World.setCell,Array.getElem?_modify,h]
set_option maxHeartbeats 2000000 in
theorem ziX (a:Option Addr) (n c:Nat) (l:List Int) (w:World) (h:Row .i32 w a n c l) (hn:n≤1099511627776) :
  Calls Tryz.prog 24 #[.slice a n c] w fun e w'=>e = .returned (.slice (some ⟨w.heap.size+1,0,none⟩) (n+1) (n+1)) ∧
   w'.ownsRow (w.heap.size+1) 37 2 (.slice (some ⟨w.heap.size+1,0,none⟩) (n+1) (n+1)) (n+1) (posCells (plist l (n+1)))∧Below w.heap.size w w':=by
 obtain⟨i0,hi,hz0,hz1,hz2⟩:=info_parts infoPos;have e0:=Hi (show (w.alloc (.cells #[.int .i64 1,.int .i64 1] 37)).heap.size=w.heap.size+1 from by simp)
 have bx0:=Hi (show Box (w.alloc (.cells #[.int .i64 1,.int .i64 1] 37)) w.heap.size 1 1 from heap_alloc_new w _)
 have hbe0:=Hi (show Below w.heap.size w (w.alloc (.cells #[.int .i64 1,.int .i64 1] 37)) from (Below.refl _ _).alloc (lr _) _)
 go_enter Tryz.func24,Tryz.ntmps24
 go_wp2_with (first
  | (refine wpList_make_own _ rfl _ _ 26 rfl (w.heap.size+1) 37 i0 (.agg #[.int .i64 0,.int .i64 0]) 2 Tryz.underlying26 hi hz0 hz1 .i64 .i64 _ (n+1) rfl rfl (by omega) (by rw[hz2];omega) (by unfold maxLen;omega) (by simp) ?_;intro w1 hown hgrow;rw[uh e0] at hown;have hg1:=belowNone hgrow;have bx1:=(uh bx0).below hg1;obtain⟨k0,k1,k2,k3⟩:=bx1.cells;have hg:=(uh hbe0).trans (hg1.mono (by rw[uh e0];omega));have hsz:=hg1.size;rw[uh e0] at hsz;clear hgrow hg1)
  | (at_builtin;refine wpList_append_fits _ rfl (.tmp 11) (.tmp 13) 26 rfl (w.heap.size+1) 37 i0 2 Tryz.underlying26 hi hz1 (w.heap.size+1) 0 (n+1) [] rfl (hown.alloc _) ⟨w1.heap.size,0,none⟩ 1 1 [.int .i64 1,.int .i64 1] rfl rfl (zhC _ _ _ _) (zkf _ _) (by omega) ?_;intro w2 hown2 hgrow2))
 simp only[Nat.zero_add,List.nil_append] at hown2 ⊢;have hal:Below w1.heap.size w1 (w1.alloc (.cells #[.int .i64 1,.int .i64 1] 37)):=(Below.refl _ _).alloc (lr _) _;have hgr:Below (w.heap.size+1) w1 w2:=(hal.mono hsz).grown hgrow2 (by simp;omega) (fun k hk=>by obtain rfl:=Option.some.inj hk;exact lr _)
 have hb2:Below w.heap.size w w2:=hg.trans (hgr.mono (by omega))
 have bx2:Box w2 w.heap.size 1 1:=(hgr.block _ (by omega)).trans bx1
 have hs2:w.heap.size+1≤w2.heap.size:=Nat.le_trans hsz hgr.size;clear hal hgr hgrow2 hown k0 k1 k2 k3 bx1 hg hsz bx0 hbe0 e0
 go_loopw [4,17] (fun v i wr=>∃ k:Nat,k≤n∧i = .int .i64 k∧v = .slice (some ⟨w.heap.size+1,0,none⟩) (k+1) (n+1) ∧
  wr.ownsRow (w.heap.size+1) 37 2 (.slice (some ⟨w.heap.size+1,0,none⟩) (k+1) (n+1)) (k+1) (posCells (plist l (k+1)))∧Box wr w.heap.size (posT l k).1 (posT l k).2∧Below w.heap.size w wr) (fun _ i _=>n - (intOf i).toNat)
 case atStart=>exact⟨0,Nat.zero_le _,rfl,rfl,hown2,bx2,hb2⟩
 case round =>
  obtain⟨k,hk,rfl,rfl,hown,hbx,hbel⟩:=hrel;clear hown2 bx2 hb2 hs2
  by_cases hlt:k<n
  ·obtain⟨q0,q1,q2,q3⟩:=hbx.cells
   have hbd:=zop l k;have hstep:=Hi (show posT l (k+1)=(if enB l k then (posT l k).1+1 else (posT l k).1,if enB l k then 1 else (posT l k).2+1) from rfl)
   have P:=Hi (ziB a n c l k (posT l k).1 (posT l k).2 wr (h.below hbel) (by omega) hlt (by omega) (by omega) (by omega) (by omega))
   obtain⟨X,hX⟩:∃ X,X=posT l k:=⟨_,rfl⟩;obtain⟨Y,hY⟩:∃ Y,Y=posT l (k+1):=⟨_,rfl⟩;have hY1:=Hi (show Y.1=(if enB l k then X.1+1 else X.1) from by rw[hY,hX,uh hstep])
   have hY2:=Hi (show Y.2=(if enB l k then 1 else X.2+1) from by rw[hY,hX,uh hstep])
   rw[← hX] at P q0 q1 hbx;rw[← uh hY1,← uh hY2] at P;have HY:=Hi hY;have hkl:(k:Int)<(n:Int):=by omega
   clear hX hY hstep hY1 hY2 hbd
   go_wp2_with fail
   refine (uh P).mono ?_
   rintro e w3 ⟨rfl,hb3⟩;have hbx3:=hbx.below hb3;have hown3:=zay hown hb3;have hbel3:=hbel.trans (hb3.mono hbel.size);obtain⟨p0,p1,p2,p3⟩:=hbx3.cells;obtain⟨W3,hW3⟩:∃ W3,W3=(w3.setCell ⟨w.heap.size,0,none⟩ (.int .i64 Y.1)).setCell ⟨w.heap.size,1,none⟩ (.int .i64 Y.2):=⟨_,rfl⟩;have hsz3:W3.heap.size=w3.heap.size:=by rw[hW3];simp[World.setCell]
   have hownS:W3.ownsRow (w.heap.size+1) 37 2 (.slice (some ⟨w.heap.size+1,0,none⟩) (k+1) (n+1)) (k+1) (posCells (plist l (k+1))):=by
    rw[hW3];exact ownsRow_setCell_below (ownsRow_setCell_below hown3 (by simp) _) (by simp) _
   have hbxS:Box W3 w.heap.size Y.1 Y.2:=by rw[hW3];exact hbx3.set _ _
   have hbelS:Below w.heap.size w W3:=by rw[hW3];exact (hbel3.setCell (lr _) _).setCell (lr _) _
   have hcel:∀ j u,[Value.int .i64 Y.1,Value.int .i64 Y.2][j]? = some u→(W3.alloc (.cells #[.int .i64 Y.1,.int .i64 Y.2] 37)).cell? ((⟨w3.heap.size,0,none⟩:Addr).add j)=some u:=by
    rw[← hsz3];exact zhC _ _ _ _
   have hownA:=hownS.alloc (.cells #[.int .i64 Y.1,.int .i64 Y.2] 37);have HA:=Hi hownA;have HCel:=Hi hcel;have HbS:=Hi hbelS;have HxS:=Hi hbxS;have Hs3:=Hi hsz3;rw[hW3] at HA HCel;have HW:=Hi hW3;clear P hb3 hown hbx q0 q1 q2 q3 hbel hW3 hownA hownS hcel hbelS hbxS hsz3
   go_wp2_with (at_builtin;refine wpList_append_fits _ rfl (.tmp 24) (.tmp 26) 26 rfl (w.heap.size+1) 37 i0 2 Tryz.underlying26 hi hz1 (w.heap.size+1) (k+1) (n+1) (posCells (plist l (k+1))) rfl (uh HA) ⟨w3.heap.size,0,none⟩ 1 1 [.int .i64 Y.1,.int .i64 Y.2] rfl rfl (uh HCel) (zkf _ _) (by omega) ?_;intro w4 hown4 hgrow4)
   go_roundw
   case rel =>
    rw[← uh HW] at hgrow4;have hb4:Below (w.heap.size+1) W3 w4:=((Below.refl _ _).alloc (by rw[uh Hs3];have:=hbx3.lt;omega) _).grown hgrow4 (by simp;rw[uh Hs3];have:=hbx3.lt;omega) (fun k hk=>by obtain rfl:=Option.some.inj hk;exact lr _)
    refine⟨k+1,by omega,by go_num,rfl,?_,?_,(uh HbS).trans (hb4.mono (by omega))⟩
    ·rw[ziY l (k+1),← uh HY];exact hown4
    ·rw[← uh HY];exact (hb4.block _ (by omega)).trans (uh HxS)
   case measure=>simp[intOf];omega
  ·have ek:k=n:=by omega
   subst ek
   go_wp2
   go_ret
   exact⟨rfl,hown,hbel⟩
def oneQ (n:Nat) (b0 b1 b2 b3:Int):Int × Nat:=
 if 0<n∧b0<128 then (b0,1)
 else if 1<n∧b0 / 32=6∧b1 / 64=2∧128≤b0 % 32 * 64+b1 % 64 then (b0 % 32 * 64+b1 % 64,2)
 else if 2<n∧b0 / 16=14∧b1 / 64=2∧b2 / 64=2∧2048≤b0 % 16 * 4096+b1 % 64 * 64+b2 % 64∧(b0 % 16 * 4096+b1 % 64 * 64+b2 % 64≤55295∨57344≤b0 % 16 * 4096+b1 % 64 * 64+b2 % 64) then (b0 % 16 * 4096+b1 % 64 * 64+b2 % 64,3)
 else if 3<n∧b0 / 8=30∧b1 / 64=2∧b2 / 64=2∧b3 / 64=2∧65536≤b0 % 8 * 262144+b1 % 64 * 4096+b2 % 64 * 64+b3 % 64∧b0 % 8 * 262144+b1 % 64 * 4096+b2 % 64 * 64+b3 % 64≤1114111 then (b0 % 8 * 262144+b1 % 64 * 4096+b2 % 64 * 64+b3 % 64,4)
 else (0,0)
def oneL (l:List Int):Int × Nat:=oneQ l.length (l.getD 0 0) (l.getD 1 0) (l.getD 2 0) (l.getD 3 0)
def Byt (l:List Int):Prop:=∀ z ∈ l,0≤z∧z≤255
theorem zdU {l:List Int} (h:Byt l) (i:Nat):0≤l.getD i 0∧l.getD i 0≤255:=by
 by_cases hi:i<l.length
 ·have:=h (l.getD i 0) (by simp[List.getD,hi])
  exact this
 ·simp[List.getD,List.getElem?_eq_none (show l.length≤i by omega)]
theorem zfl {l:List Int} (h:Byt l) (i:Nat):Byt (l.drop i):=fun z hz=>h z (List.mem_of_mem_drop hz)
theorem zhe (c:Int) (h:scP c) (r:List Int):oneL (putB c ++ r)=(c,(putB c).length):=by
 unfold scP at h
 by_cases h1:c<128
 ·rw[zeE h1]
  simp only[oneL,oneQ,List.cons_append,List.nil_append,List.length_cons,List.length_nil,List.getD_cons_zero];rw[if_pos (by omega)]
 by_cases h2:c<2048
 ·rw[zgD (by omega) h2]
  simp only[oneL,oneQ,List.cons_append,List.nil_append,List.length_cons,List.length_nil,List.getD_cons_zero,List.getD_cons_succ];rw[if_neg (by omega),if_pos (by omega)]
  refine Prod.ext ?_ rfl
  show _=c
  omega
 by_cases h3:c<65536
 ·rw[zgE (by omega) h3]
  simp only[oneL,oneQ,List.cons_append,List.nil_append,List.length_cons,List.length_nil,List.getD_cons_zero,List.getD_cons_succ];rw[if_neg (by omega),if_neg (by omega),if_pos (by omega)]
  refine Prod.ext ?_ rfl
  show _=c
  omega
 ·rw[zkx (by omega)]
  simp only[oneL,oneQ,List.cons_append,List.nil_append,List.length_cons,List.length_nil,List.getD_cons_zero,List.getD_cons_succ];rw[if_neg (by omega),if_neg (by omega),if_neg (by omega),if_pos (by omega)]
  refine Prod.ext ?_ rfl
  show _=c
  omega
theorem zfK (l:List Int) (hb:Byt l) (h:(oneL l).2 ≠ 0):scP (oneL l).1∧l=putB (oneL l).1 ++ l.drop (oneL l).2∧(oneL l).2=(putB (oneL l).1).length:=by
 have g0:=zdU hb 0;have g1:=zdU hb 1;have g2:=zdU hb 2;have g3:=zdU hb 3
 match l,hb,h,g0,g1,g2,g3 with
 | [],_,h,_,_,_,_=>exact absurd rfl h
 | [b0],_,h,g0,_,_,_ =>
  simp only[List.getD_cons_zero] at g0
  by_cases c1:b0<128
  ·have e:oneL [b0]=(b0,1):=by simp only[oneL,oneQ,List.length_cons,List.length_nil,List.getD_cons_zero];rw[if_pos (by omega)]
   rw[e,zeE c1];exact⟨by unfold scP;simp only;omega,rfl,rfl⟩
  ·have e:oneL [b0]=(0,0):=by
    simp only[oneL,oneQ,List.length_cons,List.length_nil,List.getD_cons_zero];rw[if_neg (by omega),if_neg (by omega),if_neg (by omega),if_neg (by omega)]
   rw[e] at h;exact absurd rfl h
 | [b0,b1],_,h,g0,g1,_,_ =>
  simp only[List.getD_cons_zero,List.getD_cons_succ] at g0 g1
  by_cases c1:b0<128
  ·have e:oneL [b0,b1]=(b0,1):=by simp only[oneL,oneQ,List.length_cons,List.length_nil,List.getD_cons_zero];rw[if_pos (by omega)]
   rw[e,zeE c1];exact⟨by unfold scP;simp only;omega,rfl,rfl⟩
  by_cases c2:b0 / 32=6∧b1 / 64=2∧128≤b0 % 32 * 64+b1 % 64
  ·have e:oneL [b0,b1]=(b0 % 32 * 64+b1 % 64,2):=by
    simp only[oneL,oneQ,List.length_cons,List.length_nil,List.getD_cons_zero,List.getD_cons_succ];rw[if_neg (by omega),if_pos (by omega)]
   rw[e,zgD (by simp only;omega) (by simp only;omega)]
   refine⟨by unfold scP;simp only;omega,?_,rfl⟩
   simp;omega
  ·have e:oneL [b0,b1]=(0,0):=by
    simp only[oneL,oneQ,List.length_cons,List.length_nil,List.getD_cons_zero,List.getD_cons_succ];rw[if_neg (by omega),if_neg (by omega),if_neg (by omega),if_neg (by omega)]
   rw[e] at h;exact absurd rfl h
 | [b0,b1,b2],_,h,g0,g1,g2,_ =>
  simp only[List.getD_cons_zero,List.getD_cons_succ] at g0 g1 g2
  by_cases c1:b0<128
  ·have e:oneL [b0,b1,b2]=(b0,1):=by simp only[oneL,oneQ,List.length_cons,List.length_nil,List.getD_cons_zero];rw[if_pos (by omega)]
   rw[e,zeE c1];exact⟨by unfold scP;simp only;omega,rfl,rfl⟩
  by_cases c2:b0 / 32=6∧b1 / 64=2∧128≤b0 % 32 * 64+b1 % 64
  ·have e:oneL [b0,b1,b2]=(b0 % 32 * 64+b1 % 64,2):=by
    simp only[oneL,oneQ,List.length_cons,List.length_nil,List.getD_cons_zero,List.getD_cons_succ];rw[if_neg (by omega),if_pos (by omega)]
   rw[e,zgD (by simp only;omega) (by simp only;omega)]
   refine⟨by unfold scP;simp only;omega,?_,rfl⟩
   simp;omega
  by_cases c3:b0 / 16=14∧b1 / 64=2∧b2 / 64=2∧2048≤b0 % 16 * 4096+b1 % 64 * 64+b2 % 64∧(b0 % 16 * 4096+b1 % 64 * 64+b2 % 64≤55295∨57344≤b0 % 16 * 4096+b1 % 64 * 64+b2 % 64)
  ·have e:oneL [b0,b1,b2]=(b0 % 16 * 4096+b1 % 64 * 64+b2 % 64,3):=by
    simp only[oneL,oneQ,List.length_cons,List.length_nil,List.getD_cons_zero,List.getD_cons_succ];rw[if_neg (by omega),if_neg (by omega),if_pos (by omega)]
   rw[e,zgE (by simp only;omega) (by simp only;omega)]
   refine⟨by unfold scP;simp only;omega,?_,rfl⟩
   simp;omega
  ·have e:oneL [b0,b1,b2]=(0,0):=by
    simp only[oneL,oneQ,List.length_cons,List.length_nil,List.getD_cons_zero,List.getD_cons_succ];rw[if_neg (by omega),if_neg (by omega),if_neg (by omega),if_neg (by omega)]
   rw[e] at h;exact absurd rfl h
 | b0 :: b1 :: b2 :: b3 :: r,_,h,g0,g1,g2,g3 =>
  simp only[List.getD_cons_zero,List.getD_cons_succ] at g0 g1 g2 g3
  by_cases c1:b0<128
  ·have e:oneL (b0 :: b1 :: b2 :: b3 :: r)=(b0,1):=by simp only[oneL,oneQ,List.length_cons,List.getD_cons_zero];rw[if_pos (by omega)]
   rw[e,zeE c1];exact⟨by unfold scP;simp only;omega,rfl,rfl⟩
  by_cases c2:b0 / 32=6∧b1 / 64=2∧128≤b0 % 32 * 64+b1 % 64
  ·have e:oneL (b0 :: b1 :: b2 :: b3 :: r)=(b0 % 32 * 64+b1 % 64,2):=by
    simp only[oneL,oneQ,List.length_cons,List.getD_cons_zero,List.getD_cons_succ];rw[if_neg (by omega),if_pos (by omega)]
   rw[e,zgD (by simp only;omega) (by simp only;omega)]
   refine⟨by unfold scP;simp only;omega,?_,rfl⟩
   simp;omega
  by_cases c3:b0 / 16=14∧b1 / 64=2∧b2 / 64=2∧2048≤b0 % 16 * 4096+b1 % 64 * 64+b2 % 64∧(b0 % 16 * 4096+b1 % 64 * 64+b2 % 64≤55295∨57344≤b0 % 16 * 4096+b1 % 64 * 64+b2 % 64)
  ·have e:oneL (b0 :: b1 :: b2 :: b3 :: r)=(b0 % 16 * 4096+b1 % 64 * 64+b2 % 64,3):=by
    simp only[oneL,oneQ,List.length_cons,List.getD_cons_zero,List.getD_cons_succ];rw[if_neg (by omega),if_neg (by omega),if_pos (by omega)]
   rw[e,zgE (by simp only;omega) (by simp only;omega)]
   refine⟨by unfold scP;simp only;omega,?_,rfl⟩
   simp;omega
  by_cases c4:b0 / 8=30∧b1 / 64=2∧b2 / 64=2∧b3 / 64=2∧65536≤b0 % 8 * 262144+b1 % 64 * 4096+b2 % 64 * 64+b3 % 64∧b0 % 8 * 262144+b1 % 64 * 4096+b2 % 64 * 64+b3 % 64≤1114111
  ·have e:oneL (b0 :: b1 :: b2 :: b3 :: r)=(b0 % 8 * 262144+b1 % 64 * 4096+b2 % 64 * 64+b3 % 64,4):=by
    simp only[oneL,oneQ,List.length_cons,List.getD_cons_zero,List.getD_cons_succ];rw[if_neg (by omega),if_neg (by omega),if_neg (by omega),if_pos (by omega)]
   rw[e,zkx (by simp only;omega)]
   refine⟨by unfold scP;simp only;omega,?_,rfl⟩
   simp;omega
  ·have e:oneL (b0 :: b1 :: b2 :: b3 :: r)=(0,0):=by
    simp only[oneL,oneQ,List.length_cons,List.getD_cons_zero,List.getD_cons_succ];rw[if_neg (by omega),if_neg (by omega),if_neg (by omega),if_neg (by omega)]
   rw[e] at h;exact absurd rfl h
def decF:Nat→List Int→List Int × Nat
 | 0,_=>([],0)
 | f+1,l=>if (oneL l).2=0 then ([],0) else ((oneL l).1 :: (decF f (l.drop (oneL l).2)).1,(oneL l).2+(decF f (l.drop (oneL l).2)).2)
def decZ (l:List Int):List Int × Nat:=decF l.length l
theorem zbt (f:Nat) (l:List Int) (h:(oneL l).2=0):decF f l=([],0):=by
 cases f with
 | zero=>rfl
 | succ f=>simp[decF,h]
theorem zd9 (f:Nat) (l:List Int) (h:(oneL l).2 ≠ 0):decF (f+1) l=((oneL l).1 :: (decF f (l.drop (oneL l).2)).1,(oneL l).2+(decF f (l.drop (oneL l).2)).2):=by
 simp[decF,h]
theorem zhd (l:List Int):(oneL l).2≤l.length:=by
 unfold oneL oneQ
 repeat' split
 all_goals simp only
 all_goals omega
theorem zoI (l p r:List Int) (k:Nat) (h:l=p ++ r) (hk:k=p.length):l.take k=p:=by subst h hk;simp
theorem zbT:∀ (f:Nat) (l:List Int),Byt l→((decF f l).1.flatMap putB=l.take (decF f l).2∧(decF f l).2≤l.length∧((decF f l).1).all scB=true∧((decF f l).1.flatMap putB).length=(decF f l).2)
 | 0,l,_=>by simp[decF]
 | f+1,l,hb=>by
  by_cases h:(oneL l).2=0
  ·rw[zbt _ _ h];simp
  ·rw[zd9 f l h]
   obtain⟨h1,h2,h3⟩:=zfK l hb h;obtain⟨i1,i2,i3,i4⟩:=zbT f (l.drop (oneL l).2) (zfl hb _);have hle:=zhd l;simp only[List.flatMap_cons];refine⟨?_,?_,?_,?_⟩
   ·rw[i1,List.take_add]
    rw[zoI l _ _ _ h2 h3]
   ·simp at i2;omega
   ·simp[i3,(zdB _).2 h1]
   ·rw[List.length_append,i4,← h3]
def bytesZ (s:ByteArray):List Int:=s.data.toList.map fun b=>(b.toNat:Int)
theorem za4 (s:ByteArray):(bytesZ s).length=s.size:=by unfold bytesZ;rw[List.length_map,Array.length_toList];rfl
theorem zbb (s:ByteArray):Byt (bytesZ s):=by
 intro z hz;obtain⟨b,_,rfl⟩:=List.mem_map.1 hz;have:=b.toNat_lt;omega
theorem ziD (zs:List Int) (h:Byt zs):bytesZ (strOfNums zs)=zs:=by
 unfold bytesZ;rw[strOfNums_data,List.map_map]
 conv=>rhs;rw[← List.map_id zs]
 apply List.map_congr_left
 intro z hz;have:=h z hz;simp;omega
theorem zcD (s:ByteArray) (i:Nat):(bytesZ s).getD i 0=((s.get! i).toNat:Int):=by
 unfold bytesZ;have e:s.get! i=s.data[i]! := rfl;rw[e]
 by_cases h:i<s.data.size
 ·rw[getElem!_pos s.data i h]
  simp[List.getD,Array.getElem?_eq_getElem h]
 ·rw[getElem!_neg s.data i h]
  simp[List.getD,Array.getElem?_eq_none (Nat.le_of_not_lt h)]
  rfl
theorem zc9 (l:List Int) (p k:Nat):(l.drop p).getD k 0=l.getD (p+k) 0:=by simp[List.getD]
theorem zoe (s:ByteArray) (p:Nat):oneL ((bytesZ s).drop p)=oneQ (s.size - p) ((s.get! p).toNat:Int) ((s.get! (p+1)).toNat:Int) ((s.get! (p+2)).toNat:Int) ((s.get! (p+3)).toNat:Int):=by
 unfold oneL;rw[zc9,zc9,zc9,zc9,zcD,zcD,zcD,zcD];simp[za4]
theorem zlP {n:Nat} {b0:Int} (b1 b2 b3:Int) (h0:128≤b0) (h:b0<192∨248≤b0):oneQ n b0 b1 b2 b3=(0,0):=by
 unfold oneQ;rw[if_neg (by omega),if_neg (by omega),if_neg (by omega),if_neg (by omega)]
theorem zmT {n:Nat} {b0:Int} (b1 b2 b3:Int) (h0:192≤b0) (h1:b0<224):oneQ n b0 b1 b2 b3=if 1<n∧b1 / 64=2∧128≤b0 % 32 * 64+b1 % 64 then (b0 % 32 * 64+b1 % 64,2) else (0,0):=by
 unfold oneQ;have e1:b0 / 32=6:=by omega
 have e2:¬ b0 / 16=14:=by omega
 have e3:¬ b0 / 8=30:=by omega
 rw[if_neg (by omega)]
 simp only[e1,e2,e3,true_and,false_and,and_false,if_false]
theorem zmU {n:Nat} {b0:Int} (b1 b2 b3:Int) (h0:224≤b0) (h1:b0<240):oneQ n b0 b1 b2 b3=if 2<n∧b1 / 64=2∧b2 / 64=2∧2048≤b0 % 16 * 4096+b1 % 64 * 64+b2 % 64∧(b0 % 16 * 4096+b1 % 64 * 64+b2 % 64≤55295∨57344≤b0 % 16 * 4096+b1 % 64 * 64+b2 % 64) then (b0 % 16 * 4096+b1 % 64 * 64+b2 % 64,3) else (0,0):=by
 unfold oneQ;have e1:¬ b0 / 32=6:=by omega
 have e2:b0 / 16=14:=by omega
 have e3:¬ b0 / 8=30:=by omega
 rw[if_neg (by omega)]
 simp only[e1,e2,e3,true_and,false_and,and_false,if_false]
theorem zmV {n:Nat} {b0:Int} (b1 b2 b3:Int) (h0:240≤b0) (h1:b0<248):oneQ n b0 b1 b2 b3=if 3<n∧b1 / 64=2∧b2 / 64=2∧b3 / 64=2∧65536≤b0 % 8 * 262144+b1 % 64 * 4096+b2 % 64 * 64+b3 % 64∧b0 % 8 * 262144+b1 % 64 * 4096+b2 % 64 * 64+b3 % 64≤1114111 then (b0 % 8 * 262144+b1 % 64 * 4096+b2 % 64 * 64+b3 % 64,4) else (0,0):=by
 unfold oneQ;have e1:¬ b0 / 32=6:=by omega
 have e2:¬ b0 / 16=14:=by omega
 have e3:b0 / 8=30:=by omega
 rw[if_neg (by omega)]
 simp only[e1,e2,e3,true_and,false_and,and_false,if_false]
def decQ (n b0 b1 b2 b3:Nat):Nat × Nat:=
 if b0<128 then (b0,1)
 else if (b0 / 32 == 6 && (decide (1<n) && b1 / 64 == 2))=true then (if b0 % 32 * 64+b1 % 64 ≥ 128 then (b0 % 32 * 64+b1 % 64,2) else (65533,1))
 else if (b0 / 16 == 14 && (decide (1<n) && b1 / 64 == 2) && (decide (2<n) && b2 / 64 == 2))=true then
  (if (decide (b0 % 16 * 4096+b1 % 64 * 64+b2 % 64 ≥ 2048) && Utf8.valid ((b0 % 16 * 4096+b1 % 64 * 64+b2 % 64:Nat):Int))=true then (b0 % 16 * 4096+b1 % 64 * 64+b2 % 64,3) else (65533,1))
 else if (b0 / 8 == 30 && (decide (1<n) && b1 / 64 == 2) && (decide (2<n) && b2 / 64 == 2) && (decide (3<n) && b3 / 64 == 2))=true then
  (if (decide (b0 % 8 * 262144+b1 % 64 * 4096+b2 % 64 * 64+b3 % 64 ≥ 65536) && Utf8.valid ((b0 % 8 * 262144+b1 % 64 * 4096+b2 % 64 * 64+b3 % 64:Nat):Int))=true then (b0 % 8 * 262144+b1 % 64 * 4096+b2 % 64 * 64+b3 % 64,4) else (65533,1))
 else (65533,1)
theorem zfo (p k n:Nat):decide (p+k<n)=decide (k<n - p):=by
 rw[decide_eq_decide];omega
theorem zlf (s:ByteArray) (p:Nat):Utf8.decode s p=decQ (s.size - p) (s.get! p).toNat (s.get! (p+1)).toNat (s.get! (p+2)).toNat (s.get! (p+3)).toNat:=by
 unfold Utf8.decode decQ;simp only[Nat.add_zero,zfo,Utf8.runeError]
theorem zdo (c:Nat):Utf8.valid (c:Int)=true ↔ (c≤55295∨57344≤c∧c≤1114111):=by
 simp[Utf8.valid];omega
theorem zld {n b0:Nat} (b1 b2 b3:Nat) (h0:128≤b0) (h:b0<192∨248≤b0):decQ n b0 b1 b2 b3=(65533,1):=by
 unfold decQ;have e1:(b0 / 32 == 6)=false:=by simp;omega
 have e2:(b0 / 16 == 14)=false:=by simp;omega
 have e3:(b0 / 8 == 30)=false:=by simp;omega
 rw[if_neg (by omega)]
 simp[e1,e2,e3]
theorem zph {n b0:Nat} (b1 b2 b3:Nat) (h0:192≤b0) (h1:b0<224):decQ n b0 b1 b2 b3=if (1<n∧b1 / 64=2)∧128≤b0 % 32 * 64+b1 % 64 then (b0 % 32 * 64+b1 % 64,2) else (65533,1):=by
 unfold decQ;have e1:(b0 / 32 == 6)=true:=by simp;omega
 have e2:(b0 / 16 == 14)=false:=by simp;omega
 have e3:(b0 / 8 == 30)=false:=by simp;omega
 rw[if_neg (by omega)]
 simp only[e1,e2,e3,Bool.true_and,Bool.false_and,Bool.and_eq_true,decide_eq_true_eq,beq_iff_eq,Bool.false_eq_true,if_false,ge_iff_le]
 by_cases a:1<n∧b1 / 64=2
 ·by_cases b:128≤b0 % 32 * 64+b1 % 64
  ·rw[if_pos a,if_pos b,if_pos ⟨a,b⟩]
  ·rw[if_pos a,if_neg b,if_neg (fun h=>b h.2)]
 ·rw[if_neg a,if_neg (fun h=>a h.1)]
theorem zpi {n b0:Nat} (b1 b2 b3:Nat) (h0:224≤b0) (h1:b0<240):decQ n b0 b1 b2 b3=if ((1<n∧b1 / 64=2)∧2<n∧b2 / 64=2)∧2048≤b0 % 16 * 4096+b1 % 64 * 64+b2 % 64∧(b0 % 16 * 4096+b1 % 64 * 64+b2 % 64≤55295∨57344≤b0 % 16 * 4096+b1 % 64 * 64+b2 % 64∧b0 % 16 * 4096+b1 % 64 * 64+b2 % 64≤1114111) then (b0 % 16 * 4096+b1 % 64 * 64+b2 % 64,3) else (65533,1):=by
 unfold decQ;have e1:(b0 / 32 == 6)=false:=by simp;omega
 have e2:(b0 / 16 == 14)=true:=by simp;omega
 have e3:(b0 / 8 == 30)=false:=by simp;omega
 rw[if_neg (by omega)]
 simp only[e1,e2,e3,Bool.true_and,Bool.false_and,Bool.and_eq_true,decide_eq_true_eq,beq_iff_eq,Bool.false_eq_true,if_false,ge_iff_le,zdo]
 generalize b0 % 16 * 4096+b1 % 64 * 64+b2 % 64=C
 by_cases a:(1<n∧b1 / 64=2)∧2<n∧b2 / 64=2
 ·by_cases b:2048≤C∧(C≤55295∨57344≤C∧C≤1114111)
  ·rw[if_pos a,if_pos b,if_pos ⟨a,b⟩]
  ·rw[if_pos a,if_neg b,if_neg (fun h=>b h.2)]
 ·rw[if_neg a,if_neg (fun h=>a h.1)]
theorem zpj {n b0:Nat} (b1 b2 b3:Nat) (h0:240≤b0) (h1:b0<248):decQ n b0 b1 b2 b3=if (((1<n∧b1 / 64=2)∧2<n∧b2 / 64=2)∧3<n∧b3 / 64=2)∧65536≤b0 % 8 * 262144+b1 % 64 * 4096+b2 % 64 * 64+b3 % 64∧(b0 % 8 * 262144+b1 % 64 * 4096+b2 % 64 * 64+b3 % 64≤55295∨57344≤b0 % 8 * 262144+b1 % 64 * 4096+b2 % 64 * 64+b3 % 64∧b0 % 8 * 262144+b1 % 64 * 4096+b2 % 64 * 64+b3 % 64≤1114111) then (b0 % 8 * 262144+b1 % 64 * 4096+b2 % 64 * 64+b3 % 64,4) else (65533,1):=by
 unfold decQ;have e1:(b0 / 32 == 6)=false:=by simp;omega
 have e2:(b0 / 16 == 14)=false:=by simp;omega
 have e3:(b0 / 8 == 30)=true:=by simp;omega
 rw[if_neg (by omega)]
 simp only[e1,e2,e3,Bool.true_and,Bool.false_and,Bool.and_eq_true,decide_eq_true_eq,beq_iff_eq,Bool.false_eq_true,if_false,ge_iff_le,zdo]
 generalize b0 % 8 * 262144+b1 % 64 * 4096+b2 % 64 * 64+b3 % 64=C
 by_cases a:((1<n∧b1 / 64=2)∧2<n∧b2 / 64=2)∧3<n∧b3 / 64=2
 ·by_cases b:65536≤C∧(C≤55295∨57344≤C∧C≤1114111)
  ·rw[if_pos a,if_pos b,if_pos ⟨a,b⟩]
  ·rw[if_pos a,if_neg b,if_neg (fun h=>b h.2)]
 ·rw[if_neg a,if_neg (fun h=>a h.1)]
theorem zle (n b0 b1 b2 b3:Nat) (hn:0<n) (l0:b0<256):decQ n b0 b1 b2 b3=if (oneQ n b0 b1 b2 b3).2=0 then (65533,1) else ((oneQ n b0 b1 b2 b3).1.toNat,(oneQ n b0 b1 b2 b3).2):=by
 by_cases h1:b0<128
 ·have e:oneQ n b0 b1 b2 b3=((b0:Int),1):=by unfold oneQ;rw[if_pos (by omega)]
  rw[e];unfold decQ;rw[if_pos h1];simp
 by_cases h2:b0<192∨248≤b0
 ·rw[zld b1 b2 b3 (by omega) h2,zlP (b0:=(b0:Int)) _ _ _ (by omega) (by omega)]
  simp
 by_cases h3:b0<224
 ·rw[zph b1 b2 b3 (by omega) h3]
  by_cases c:(1<n∧b1 / 64=2)∧128≤b0 % 32 * 64+b1 % 64
  ·have e:oneQ n b0 b1 b2 b3=((b0:Int) % 32 * 64+(b1:Int) % 64,2):=by rw[zmT (b0:=(b0:Int)) _ _ _ (by omega) (by omega),if_pos (by omega)]
   rw[if_pos c,e];simp;omega
  ·have e:oneQ n b0 b1 b2 b3=(0,0):=by rw[zmT (b0:=(b0:Int)) _ _ _ (by omega) (by omega),if_neg (by omega)]
   rw[if_neg c,e];simp
 by_cases h4:b0<240
 ·rw[zpi b1 b2 b3 (by omega) h4]
  by_cases c:((1<n∧b1 / 64=2)∧2<n∧b2 / 64=2)∧2048≤b0 % 16 * 4096+b1 % 64 * 64+b2 % 64∧(b0 % 16 * 4096+b1 % 64 * 64+b2 % 64≤55295∨57344≤b0 % 16 * 4096+b1 % 64 * 64+b2 % 64∧b0 % 16 * 4096+b1 % 64 * 64+b2 % 64≤1114111)
  ·have e:oneQ n b0 b1 b2 b3=((b0:Int) % 16 * 4096+(b1:Int) % 64 * 64+(b2:Int) % 64,3):=by rw[zmU (b0:=(b0:Int)) _ _ _ (by omega) (by omega),if_pos (by omega)]
   rw[if_pos c,e];simp;omega
  ·have e:oneQ n b0 b1 b2 b3=(0,0):=by rw[zmU (b0:=(b0:Int)) _ _ _ (by omega) (by omega),if_neg (by omega)]
   rw[if_neg c,e];simp
 ·rw[zpj b1 b2 b3 (by omega) (by omega)]
  by_cases c:(((1<n∧b1 / 64=2)∧2<n∧b2 / 64=2)∧3<n∧b3 / 64=2)∧65536≤b0 % 8 * 262144+b1 % 64 * 4096+b2 % 64 * 64+b3 % 64∧(b0 % 8 * 262144+b1 % 64 * 4096+b2 % 64 * 64+b3 % 64≤55295∨57344≤b0 % 8 * 262144+b1 % 64 * 4096+b2 % 64 * 64+b3 % 64∧b0 % 8 * 262144+b1 % 64 * 4096+b2 % 64 * 64+b3 % 64≤1114111)
  ·have e:oneQ n b0 b1 b2 b3=((b0:Int) % 8 * 262144+(b1:Int) % 64 * 4096+(b2:Int) % 64 * 64+(b3:Int) % 64,4):=by rw[zmV (b0:=(b0:Int)) _ _ _ (by omega) (by omega),if_pos (by omega)]
   rw[if_pos c,e];simp;omega
  ·have e:oneQ n b0 b1 b2 b3=(0,0):=by rw[zmV (b0:=(b0:Int)) _ _ _ (by omega) (by omega),if_neg (by omega)]
   rw[if_neg c,e];simp
theorem zeZ (s:ByteArray) (p:Nat) (h:p<s.size) :
  Utf8.decode s p=if (oneL ((bytesZ s).drop p)).2=0 then (65533,1) else ((oneL ((bytesZ s).drop p)).1.toNat,(oneL ((bytesZ s).drop p)).2):=by
 rw[zoe,zlf];exact zle _ _ _ _ _ (by omega) (s.get! p).toNat_lt
def hpB (t p:ByteArray):Bool:=decide (p.size≤t.size) && ((t.extract 0 p.size).toList == p.toList)
theorem zqX (t p:ByteArray) (w:World) (ht:t.size≤9223372036854775807) (hp:p.size≤9223372036854775807) :
  Calls Tryz.prog 75 #[.string t,.string p] w fun e w'=>e = .returned (.bool (hpB t p))∧w'=w:=by
 by_cases h:p.size≤t.size
 ·have hb:=Hi (show hpB t p=((t.extract 0 p.size).toList == p.toList) from by simp[hpB,h])
  have h1:(p.size:Int)≤(t.size:Int):=by omega
  go_enter Tryz.func75,Tryz.ntmps75
  go_wp2
  go_ret
  rw[uh hb];exact⟨rfl,rfl⟩
 ·have hb:=Hi (show hpB t p=false from by simp[hpB,h])
  have h1:¬ (p.size:Int)≤(t.size:Int):=by omega
  go_enter Tryz.func75,Tryz.ntmps75
  go_wp2
  go_ret
  rw[uh hb];exact⟨rfl,rfl⟩
theorem zmD (t p:ByteArray) (w:World) (ht:t.size≤9223372036854775807) (hp:p.size≤9223372036854775807) :
  Calls Tryz.prog 52 #[.string t,.string p] w fun e w'=>e = .returned (.bool (hpB t p))∧w'=w:=by
 go_enter Tryz.func52,Tryz.ntmps52
 go_wp2_with fail
 refine (zqX _ _ _ ht hp).mono ?_
 rintro e w' ⟨rfl,rfl⟩
 go_wp2
 go_ret
 exact⟨rfl,rfl⟩
theorem zcr (s:ByteArray) (a b:Nat):(s.extract a b).data.toList=(s.data.toList.drop a).take (b - a):=by
 rw[ByteArray.data_extract,Array.toList_extract]
theorem zeR (s:ByteArray) (a b:Nat):bytesZ (s.extract a b)=((bytesZ s).drop a).take (b - a):=by
 unfold bytesZ;rw[zcr,List.map_take,List.map_drop]
theorem zjI (s:ByteArray) (p:Nat) (h:p≤s.size):hpB (s.extract p s.size) ⟨#[239,191,189]⟩=decide (((bytesZ s).drop p).take 3=[239,191,189]):=by
 have hz:(s.extract p s.size).size=s.size - p:=by simp
 have hp3:(⟨#[239,191,189]⟩:ByteArray).size=3:=rfl;have hl:s.data.toList.length=s.size:=by rw[Array.length_toList];rfl
 unfold hpB;rw[hz,hp3,ByteArray.toList_eq,ByteArray.toList_eq,zcr,zcr];rw[List.take_of_length_le (l:=s.data.toList.drop p) (by simp)]
 unfold bytesZ;rw[← List.map_drop];have hd:(s.data.toList.drop p).length=s.size - p:=by rw[List.length_drop,hl]
 rw[← hd]
 generalize s.data.toList.drop p=L
 rw[Bool.eq_iff_iff]
 match L with
 | []=>simp
 | [a]=>simp
 | [a,b]=>simp
 | a :: b :: c :: r =>
  simp only[List.drop_zero,Nat.sub_zero,List.length_cons,List.take_succ_cons,List.take_zero,List.map_cons,Bool.and_eq_true,decide_eq_true_eq,beq_iff_eq,List.cons.injEq,and_true]
  constructor
  ·rintro ⟨_,rfl,rfl,rfl⟩
   exact⟨rfl,rfl,rfl⟩
  ·rintro ⟨h1,h2,h3⟩
   refine⟨by omega,?_,?_,?_⟩
   all_goals apply UInt8.toNat_inj.1
   ·show _=239
    omega
   ·show _=191
    omega
   ·show _=189
    omega
theorem zig:putB 65533=[239,191,189]:=by decide
theorem zpB (s:ByteArray) (p:Nat) (h:p≤s.size) (ho:(oneL ((bytesZ s).drop p)).2 ≠ 0) (hc:(oneL ((bytesZ s).drop p)).1=65533):hpB (s.extract p s.size) ⟨#[239,191,189]⟩=true:=by
 rw[zjI s p h,decide_eq_true_iff];obtain⟨h1,h2,h3⟩:=zfK _ (zfl (zbb s) p) ho;rw[hc,zig] at h2;rw[h2];rfl
theorem zqY (s:ByteArray) (p:Nat) (h:p≤s.size) (ho:(oneL ((bytesZ s).drop p)).2=0):hpB (s.extract p s.size) ⟨#[239,191,189]⟩=false:=by
 rw[zjI s p h,decide_eq_false_iff_not];intro e;have h1:(oneL (putB 65533 ++ ((bytesZ s).drop p).drop 3)).2=3:=by rw[zhe 65533 (by unfold scP;omega)];rfl
 rw[zig,← e,List.take_append_drop,ho] at h1
 cases h1
theorem zeX (w:World) (s:ByteArray) (p:Nat):Below w.heap.size w (w.iter s p):=(Below.refl _ _).alloc (lr _) _
set_option maxHeartbeats 1000000 in
theorem zlx (s:ByteArray) (w:World) (hs:s.size≤9223372036854775807) :
  Calls Tryz.prog 34 #[.string s] w fun e w'=>e = .returned (.int .i64 ((decZ (bytesZ s)).2:Int))∧Below w.heap.size w w':=by
 go_enter Tryz.func34,Tryz.ntmps34
 go_wp2
 go_loopw [3] (fun _ wr=>∃ pos f:Nat,wr=w.iter s pos∧pos≤s.size∧s.size - pos≤f∧Hid (pos+(decF f ((bytesZ s).drop pos)).2=(decZ (bytesZ s)).2)) (fun _ wr=>s.size - wr.iterPos w.heap.size)
 case atStart=>exact⟨0,(bytesZ s).length,rfl,Nat.zero_le _,by rw[za4];omega,Hi (by simp[decZ])⟩
 case round =>
  obtain⟨pos,f,rfl,hpl,hf,hr⟩:=hrel
  by_cases hp:pos<s.size
  ·have hd:=Hi (zeZ s pos hp)
   obtain⟨ch,wd,hdec⟩:∃ ch wd:Nat,Utf8.decode s pos=(ch,wd):=⟨_,_,rfl⟩
   have hnx:∀ ty,(Instr.next (.pointer (some ⟨w.heap.size,0,none⟩)) true ty).run Tryz.prog (w.iter s pos) = .ok (.tuple #[.bool true,.int .i64 pos,.int .i32 (ch:Int)]) (w.iter s (pos+wd)):=fun ty=>by
    have:=run_next_any (P:=Tryz.prog) w s pos ty hp;rw[hdec] at this;exact this
   rw[hdec] at hd;have hex:(s.extract pos s.size).size≤9223372036854775807:=by simp;omega
   by_cases ho:(oneL ((bytesZ s).drop pos)).2=0
   ·have hd':=uh hd
    rw[if_pos ho] at hd';simp only[Prod.mk.injEq] at hd';obtain⟨rfl,rfl⟩:=hd';have hfin:=Hi (show (decZ (bytesZ s)).2=pos from by have:=uh hr;rw[zbt _ _ ho] at this;simpa using this.symm)
    have hh:=Hi (zqY s pos (by omega) ho)
    clear hd hdec ho hr
    go_wp2_with fail
    refine (zmD _ _ _ hex (by show 3≤_;omega)).mono ?_
    rintro e w' ⟨rfl,rfl⟩;rw[uh hh]
    go_wp2
    go_ret
    rw[uh hfin];exact⟨rfl,zeX _ _ _⟩
   ·have hd':=uh hd
    rw[if_neg ho] at hd';simp only[Prod.mk.injEq] at hd';obtain⟨hch,hwd⟩:=hd';obtain⟨f',rfl⟩:∃ f',f=f'+1:=⟨f - 1,by omega⟩
    obtain⟨hsc,_,_⟩:=zfK _ (zfl (zbb s) pos) ho;have hle:=zhd ((bytesZ s).drop pos);rw[List.length_drop,za4] at hle
    have hstep:=Hi (show pos+wd+(decF f' ((bytesZ s).drop (pos+wd))).2=(decZ (bytesZ s)).2 from by
     have:=uh hr;rw[zd9 _ _ ho] at this;simp only at this;rw[← hwd,List.drop_drop] at this
     omega)
    have w1:1≤wd:=by omega
    have w2:pos+wd≤s.size:=by omega
    have hcz:(ch:Int)=(oneL ((bytesZ s).drop pos)).1:=by unfold scP at hsc;omega
    by_cases hff:ch=65533
    ·have hh:=Hi (zpB s pos (by omega) ho (by omega))
     have hb:((ch:Int) == 65533)=true:=by simp;omega
     clear hd hdec ho hr hch hwd hsc hcz hle hff
     go_wp2_with fail
     refine (zmD _ _ _ hex (by show 3≤_;omega)).mono ?_
     rintro e w' ⟨rfl,rfl⟩;rw[uh hh]
     go_wp2
     go_roundw
     case rel=>exact⟨pos+wd,f',rfl,w2,by omega,hstep⟩
     case measure=>simp;omega
    ·have hb:((ch:Int) == 65533)=false:=by simp;omega
     clear hd hdec ho hr hch hwd hsc hcz hle hff
     go_wp2
     go_roundw
     case rel=>exact⟨pos+wd,f',rfl,w2,by omega,hstep⟩
     case measure=>simp;omega
  ·have hfin:=Hi (show (decZ (bytesZ s)).2=s.size from by
    have:=uh hr;have e:(bytesZ s).drop pos=[]:=List.drop_eq_nil_of_le (by rw[za4];omega)
    rw[zbt _ _ (by rw[e];rfl)] at this
    simp at this
    omega)
   have hnx:∀ ty,(Instr.next (.pointer (some ⟨w.heap.size,0,none⟩)) true ty).run Tryz.prog (w.iter s pos) = .ok (.tuple #[.bool false]) (w.iter s pos):=fun ty=>run_next_end w s pos ty hp
   clear hr
   go_wp2
   go_ret
   rw[uh hfin];exact⟨rfl,zeX _ _ _⟩
theorem zfd:∀ (zs:List Int) (s:ByteArray) (pre:List Int) (bound:Nat) (acc:Array Value),zs.all scB=true→bytesZ s=pre ++ zs.flatMap putB→zs.length≤bound →
  Conv.runesFrom s bound pre.length acc=acc ++ (zs.map (Value.int .i32)).toArray
 | [],s,pre,bound,acc,_,hb,_=>by
  have hz:pre.length=s.size:=by rw[← za4,hb];simp
  cases bound with
  | zero=>simp[Conv.runesFrom]
  | succ b=>unfold Conv.runesFrom;rw[if_neg (by omega)];simp
 | c :: zs,s,pre,0,acc,_,_,hl=>by simp at hl
 | c :: zs,s,pre,b+1,acc,ha,hb,hl=>by
  simp only[List.all_cons,Bool.and_eq_true] at ha;have hc:=(zdB c).1 ha.1;have hpl:=zfO c;simp only[List.flatMap_cons] at hb
  have hlt:pre.length<s.size:=by
   rw[← za4,hb];simp;omega
  have hd:(bytesZ s).drop pre.length=putB c ++ zs.flatMap putB:=by rw[hb];simp
  have hdec:=zeZ s pre.length hlt;rw[hd,zhe c hc] at hdec;rw[if_neg (by simp only;omega)] at hdec
  unfold Conv.runesFrom;rw[if_pos hlt,hdec];simp only;have hcz:Int.ofNat c.toNat=c:=by unfold scP at hc;show ((c.toNat:Nat):Int)=c;omega
  rw[hcz];have ih:=zfd zs s (pre ++ putB c) b (acc.push (.int .i32 c)) ha.2 (by rw[hb,List.append_assoc]) (by simp at hl;omega)
  rw[List.length_append] at ih;rw[ih];simp
theorem zg4 (zs:List Int):zs.length≤(zs.flatMap putB).length:=by
 induction zs with
 | nil=>simp
 | cons a l ih=>have:=zfO a;rw[List.flatMap_cons,List.length_append,List.length_cons];omega
theorem ziZ (s:ByteArray):Conv.runesFrom (s.extract 0 (decZ (bytesZ s)).2) (s.extract 0 (decZ (bytesZ s)).2).size 0 #[]=((decZ (bytesZ s)).1.map (Value.int .i32)).toArray:=by
 obtain⟨h1,h2,h3,h4⟩:=zbT (bytesZ s).length (bytesZ s) (zbb s)
 have hb:bytesZ (s.extract 0 (decZ (bytesZ s)).2)=[] ++ (decZ (bytesZ s)).1.flatMap putB:=by
  rw[zeR];simp only[List.drop_zero,Nat.sub_zero,List.nil_append];exact h1.symm
 have hl:(decZ (bytesZ s)).1.length≤(s.extract 0 (decZ (bytesZ s)).2).size:=by
  have:=zg4 (decZ (bytesZ s)).1;rw[← za4,hb]
  simpa using this
 have:=zfd (decZ (bytesZ s)).1 (s.extract 0 (decZ (bytesZ s)).2) [] _ #[] h3 hb hl
 simpa using this
theorem zfm (l:List Int) (h:Byt l):(decZ l).2≤l.length:=(zbT l.length l h).2.1
theorem zfn (l:List Int) (h:Byt l):(decZ l).1.length≤(decZ l).2:=by
 have h1:=zg4 (decZ l).1;have h2:=(zbT l.length l h).2.2.2;exact Nat.le_trans h1 (Nat.le_of_eq h2)
theorem zgc (s:ByteArray) (w:World) (hs:(decZ (bytesZ s)).1.length≤70368744177664) (g:Nat) (hg:g=(decZ (bytesZ s)).2):∃ V W2,(convert 9 78 (.string (s.extract 0 g))).run Tryz.prog w = .ok V W2 ∧
  W2.ownsRow w.heap.size 21 1 V (decZ (bytesZ s)).1.length ((decZ (bytesZ s)).1.map (Value.int .i32))∧Below w.heap.size w W2:=by
 subst hg;have hr:=ziZ s;have hsz:(Conv.runesFrom (s.extract 0 (decZ (bytesZ s)).2) (s.extract 0 (decZ (bytesZ s)).2).size 0 #[]).size=(decZ (bytesZ s)).1.length:=by rw[hr];simp
 have h:=run_runes_of_string (P:=Tryz.prog) w 9 78 21 (s.extract 0 (decZ (bytesZ s)).2) Tryz.underlying9 Tryz.underlying78 Tryz.underlying21 (by rw[hsz];omega)
 rw[hsz,hr] at h;refine⟨_,_,h,⟨by simp,.inr ⟨w.heap.size,_,_,rfl,lr _,heap_alloc_new w.drew _,grownCap_ge _ _ _ _,grownCap_le_maxLen _ _ _ _ (by unfold maxLen;omega),?_,?_⟩⟩,?_⟩
 ·have:=grownCap_ge w (decZ (bytesZ s)).1.length 0 21
  simp;omega
 ·simp
 ·exact (Below.refl _ _).drew.alloc (lr _) _
theorem ziF (s:ByteArray) (w:World) (hs:s.size≤70368744177664) (g:Nat) (hg:g=(decZ (bytesZ s)).2):∃ V W2,(convert 9 78 (.string (s.extract 0 g))).run Tryz.prog w = .ok V W2 ∧
  W2.ownsRow w.heap.size 21 1 V (decZ (bytesZ s)).1.length ((decZ (bytesZ s)).1.map (Value.int .i32))∧Below w.heap.size w W2:=
 zgc s w (by
  have h1:=zfn (bytesZ s) (zbb s);have h2:=zfm (bytesZ s) (zbb s);rw[za4] at h2
  omega) g hg
theorem zoi {w:World} {base base':Nat} {e:TypeId} {size:Nat} {v:Value} {n:Nat} {xs:List Value} (h:w.ownsRow base e size v n xs) (hb:base'≤base):w.ownsRow base' e size v n xs:=
 ⟨h.1,h.2.imp id (fun ⟨g',r1,r2,r3,r4,r5⟩=>⟨g',r1,r2,r3,Nat.le_trans hb r4,r5⟩)⟩
set_option maxHeartbeats 1000000 in
theorem zgd (a:Option Addr) (n c:Nat) (zs:List Int) (w:World) (h:Row .u8 w a n c zs) (hz:Byt zs) (hs:n≤70368744177664) :
  Calls Tryz.prog 23 #[.slice a n c] w fun e w'=>∃ v,e = .returned (.tuple #[v,.int .i64 ((decZ zs).2:Int)]) ∧
   w'.ownsRow w.heap.size 21 1 v (decZ zs).1.length ((decZ zs).1.map (Value.int .i32))∧Below w.heap.size w w':=by
 have hsz:(strOfNums zs).size=n:=by rw[strOfNums_size,h.len]
 have hbz:=ziD zs hz;have hconv0:=zfc (P:=Tryz.prog) h 22 9 5 Tryz.underlying22 Tryz.underlying5 Tryz.underlying9;have hg1:=zfm zs hz;rw[h.len] at hg1;obtain⟨g,hg⟩:∃ g,g=(decZ zs).2:=⟨_,rfl⟩;have G:=Hi (zlx (strOfNums zs) w (by omega))
 have C:=Hi (fun W=>ziF (strOfNums zs) W (by omega) g (by rw[hbz];exact hg))
 rw[hbz] at G C;rw[← hg] at hg1 G ⊢;obtain⟨S,hS⟩:∃ S,S=strOfNums zs:=⟨_,rfl⟩;rw[← hS] at hsz G C hconv0;have hle:g≤S.size:=by omega
 clear hg hbz hS h hsz
 go_enter Tryz.func23,Tryz.ntmps23
 go_wp2_with fail
 refine (uh G).mono ?_
 rintro e w1 ⟨rfl,hb1⟩;obtain⟨V,W2,hconv,hown,hb2⟩:=uh C w1;have hg1i:(g:Int)≤(S.size:Int):=by omega
 clear C G hconv0
 go_wp2
 go_ret2
 exact⟨V,rfl,zoi hown hb1.size,hb1.trans (hb2.mono hb1.size)⟩
end Go.Proofs.YtifbkdicglcogaaGreat.mem
