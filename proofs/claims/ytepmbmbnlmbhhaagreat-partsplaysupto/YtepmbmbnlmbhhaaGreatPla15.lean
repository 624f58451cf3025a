import Derived.Test.YtepmbmbnlmbhhaaGreatPla12
set_option linter.unusedVariables false
set_option linter.unusedSimpArgs false
set_option maxHeartbeats 16000000
set_option maxRecDepth 8000
open Go.Proofs.Tryz
namespace Go.Proofs.YtepmbmbnlmbhhaaGreat
open Go.ChangeShapes Go.WideShapes Go.ChangeAt Go.RowKit
namespace lx
open mem (pfx digB isAt digAt digs digsF)
def lkc(c:Int):Int:=if soB c then c else -1
def lkZ(l:List Int)(cl:Bool):List Int:=l.map lkc++(if cl then [-2] else [-1,-2])
theorem zcy(l:List Int)(cl:Bool):l.length<(lkZ l cl).length∧(lkZ l cl).length≤l.length+2:=by
 unfold lkZ
 cases cl <;> simp
def zA(l:List Int)(cl:Bool)(i:Nat):Int:=(lkZ l cl).getD i 0
theorem zj9(l:List Int)(cl:Bool)(i:Nat)(h:i<l.length):zA l cl i=lkc (l.getD i 0):=by
 unfold zA lkZ;simp[List.getD,List.getElem?_append_left,h]
theorem znA(l:List Int)(cl:Bool)(i:Nat)(h:l.length≤i):zA l cl i = -1∨zA l cl i = -2∨zA l cl i=0:=by
 unfold zA lkZ;rw[List.getD,List.getElem?_append_right (by simpa using h)]
 simp only[List.length_map]
 generalize i-l.length=k
 cases cl <;> match k with
 | 0=>simp
 | 1=>simp
 | k+2=>simp
theorem ziD(l:List Int)(cl:Bool):zA l cl l.length=if cl then -2 else -1:=by
 unfold zA lkZ;rw[List.getD,List.getElem?_append_right (by simp)]
 cases cl <;> simp
theorem zcF{c:Int}(h:soB c=true):9≤c:=by unfold soB at h;have:=of_decide_eq_true h;omega
theorem znB(l:List Int)(cl:Bool)(i:Nat)(h:soB (cAt l i)=true):zA l cl i=cAt l i:=by
 have hi:=zaE (l:=l) (i:=i) rfl (fun e=>by rw[e] at h;revert h;decide)
 rw[zj9 l cl i hi,zbk hi] at *;unfold lkc;rw[if_pos h]
theorem znQ(l:List Int)(cl:Bool)(i:Nat)(hi:i≤l.length)(h:soB (cAt l i)=false):zA l cl i<0:=by
 rcases Nat.lt_or_ge i l.length with h1 | h1
 ·rw[zj9 l cl i h1]
  rw[zbk h1] at h;unfold lkc;rw[h,if_neg (by decide)]
  decide
 ·obtain rfl:i=l.length:=by omega
  rw[ziD]
  cases cl <;> decide
theorem zbh(l:List Int)(cl:Bool)(i:Nat)(c:Int)(hc:soB c=true):zA l cl i=c ↔ cAt l i=c:=by
 have h9:=zcF hc
 rcases Nat.lt_or_ge i l.length with h1 | h1
 ·rw[zj9 l cl i h1,zbk h1]
  unfold lkc
  split
  ·exact Iff.rfl
  ·rename_i h
   constructor
   ·intro e;omega
   ·intro e;rw[e] at h;exact absurd hc h
 ·rw[zaI h1]
  rcases znA l cl i h1 with e | e | e <;> rw[e] <;> constructor <;> intro e2 <;> omega
theorem zdq(P:Int→Bool)(h0:P 0=false)(h1:P (-1)=false)(h2:P (-2)=false)(hs:∀ c,P c=true→soB c=true)(l:List Int)(cl:Bool)(i:Nat):P (zA l cl i)=P (cAt l i):=by
 cases e:P (cAt l i) with
 | true=>rw[znB l cl i (hs _ e)];exact e
 | false =>
  cases e2:P (zA l cl i) with
  | false=>rfl
  | true =>
   exfalso
   have:=(zbh l cl i (zA l cl i) (hs _ e2)).1 rfl;rw[this] at e;rw[e] at e2
   cases e2
theorem znz(l:List Int)(cl:Bool)(i:Nat)(hi:i≤l.length):zA l cl i = -2 ↔ (i=l.length∧cl=true):=by
 rcases Nat.lt_or_ge i l.length with h1 | h1
 ·rw[zj9 l cl i h1]
  unfold lkc
  split
  ·rename_i h
   have:=zcF h
   constructor
   ·intro e;omega
   ·intro e;omega
  ·constructor
   ·intro e;omega
   ·intro e;omega
 ·obtain rfl:i=l.length:=by omega
  rw[ziD]
  cases cl <;> simp
theorem zln(c:Int)(h:nrB c=true):soB c=true:=by unfold nrB at h;have:=of_decide_eq_true h;unfold soB;apply decide_eq_true;omega
theorem zmP(c:Int)(h:nsB c=true):soB c=true:=by unfold nsB at h;have:=of_decide_eq_true h;unfold soB;apply decide_eq_true;omega
theorem zma(c:Int)(h:blB c=true):soB c=true:=by unfold blB at h;have:=of_decide_eq_true h;unfold soB;apply decide_eq_true;omega
theorem zg6(c:Int)(h:digB c=true):soB c=true:=by
 unfold digB at h;simp only[Bool.and_eq_true,decide_eq_true_eq] at h;unfold soB
 apply decide_eq_true
 omega
theorem zmY(c:Int)(h:puB c=true):soB c=true:=by
 unfold puB puL at h;simp at h;unfold soB
 apply decide_eq_true
 omega
theorem zhn(l:List Int)(p:Nat)(c:Int)(hc:c ≠ -1):isAt l p c=decide (cAt l p=c):=by
 unfold isAt cAt
 rcases Nat.lt_or_ge p l.length with h | h
 ·simp only[h,decide_true,Bool.true_and,if_true]
  rfl
 ·simp only[show ¬p<l.length by omega,decide_false,Bool.false_and,if_false]
  symm
  apply decide_eq_false
  exact fun e=>hc e.symm
theorem zdz(l:List Int)(cl:Bool)(p:Nat)(c:Int)(hc:soB c=true):isAt (lkZ l cl) p c=isAt l p c:=by
 have h9:=zcF hc;rw[zhn l p c (by omega),zhn (lkZ l cl) p c (by omega)]
 have h:=zbh l cl p c hc;rw[show cAt (lkZ l cl) p=(if p<(lkZ l cl).length then zA l cl p else -1) from rfl]
 rw[decide_eq_decide]
 split
 ·exact h
 ·rename_i hp
  have:=zcy l cl;rw[zaI (show l.length≤p by omega)]
theorem zdT(l:List Int)(p:Nat):digAt l p=digB (cAt l p):=by
 unfold digAt cAt
 rcases Nat.lt_or_ge p l.length with h | h
 ·simp[h]
 ·simp[show ¬p<l.length by omega,digB]
theorem ze3(l:List Int)(cl:Bool)(p:Nat):digAt (lkZ l cl) p=digAt l p:=by
 rw[zdT,zdT];rw[show cAt (lkZ l cl) p=(if p<(lkZ l cl).length then zA l cl p else -1) from rfl]
 split
 ·exact zdq digB (by decide) (by decide) (by decide) zg6 l cl p
 ·rename_i hp
  have:=zcy l cl;rw[zaI (show l.length≤p by omega)]
theorem zms(l:List Int)(cl:Bool)(p:Nat):digs (lkZ l cl) p=digs l p:=by
 generalize hk:l.length-p=k
 induction k generalizing p with
 | zero =>
  have h:digAt l p=false:=by rw[zdT,zaI (by omega)];decide
  rw[mem.zaN h,mem.zaN (by rw[ze3];exact h)]
 | succ k ih =>
  cases h:digAt l p with
  | false=>rw[mem.zaN h,mem.zaN (by rw[ze3];exact h)]
  | true=>rw[mem.zaU h,mem.zaU (by rw[ze3];exact h),ih (p+1) (by omega)]
theorem znK(l:List Int)(cl:Bool)(p:Nat):pfx (lkZ l cl) p=pfx l p:=by
 have i1:=fun p=>zdz l cl p 45 (by decide)
 have i2:=fun p=>zdz l cl p 48 (by decide)
 have i3:=fun p=>zdz l cl p 46 (by decide)
 have i4:=fun p=>zdz l cl p 101 (by decide)
 have i5:=fun p=>zdz l cl p 69 (by decide)
 have i6:=fun p=>zdz l cl p 43 (by decide)
 have d:=zms l cl;have e1:mem.pfxFirst (lkZ l cl)=mem.pfxFirst l:=by funext p;unfold mem.pfxFirst;rw[i1]
 have e2:mem.bWhole (lkZ l cl)=mem.bWhole l:=by funext p;unfold mem.bWhole;rw[i2,d]
 have e3:mem.bPart (lkZ l cl)=mem.bPart l:=by funext p f;unfold mem.bPart;rw[d]
 have e4:mem.bPoint (lkZ l cl)=mem.bPoint l:=by funext p;unfold mem.bPoint;rw[i3]
 have e5:mem.bMark (lkZ l cl)=mem.bMark l:=by funext p;unfold mem.bMark;rw[i4,i5,i6,i1]
 have e6:mem.pfxR (lkZ l cl)=mem.pfxR l:=by funext p;unfold mem.pfxR;rw[e3,e4,e5]
 unfold pfx;rw[e1,e2,e6]
def th3(s:List Int)(i:Nat)(c:Int):Bool:=decide (i+2<s.length∧s.getD i 0=c∧s.getD (i+1) 0=c∧s.getD (i+2) 0=c)
theorem znp(l:List Int)(cl:Bool)(i:Nat)(c:Int)(hc:soB c=true):th3 (lkZ l cl) i c=decide (cAt l i=c∧cAt l (i+1)=c∧cAt l (i+2)=c):=by
 have h9:=zcF hc;unfold th3;rw[decide_eq_decide,←zbh l cl i c hc,←zbh l cl (i+1) c hc]
 constructor
 ·rintro ⟨_,h1,h2,h3⟩
  exact⟨h1,h2,(zbh l cl (i+2) c hc).1 h3⟩
 ·rintro ⟨h1,h2,h3⟩
  have:=zaE h3 (by omega)
  have:=zcy l cl;exact⟨by omega,h1,h2,(zbh l cl (i+2) c hc).2 h3⟩
end lx
namespace ints
abbrev lettersC:ByteArray:=⟨#[97,98,99,100,101,102,103,104,105,106,107,108,109,110,111,112,113,114,115,116,117,118,119,120,121,122,65,66,67,68,69,70,71,72,73,74,75,76,77,78,79,80,81,82,83,84,85,86,87,88,89,90,95]⟩
abbrev digitsC:ByteArray:=⟨#[48,49,50,51,52,53,54,55,56,57]⟩
abbrev endsC:ByteArray:=⟨#[9,10,13]⟩
abbrev blanksC:ByteArray:=⟨#[9,10,13,32,44]⟩
theorem zfO(L:ByteArray)(P:Int→Bool)(h1:∀ n:Fin 128,inB (n.val:Int) L=P (n.val:Int))(h2:(L.data.toList.all fun b=>decide (b.toNat<128))=true)
  (h3:∀ c,c<0∨128≤c→P c=false) (c:Int):inB c L=P c:=by
 by_cases h:0≤c∧c<128
 ·have:=h1 ⟨c.toNat,by omega⟩
  have e:((c.toNat:Nat):Int)=c:=by omega
  simpa[e] using this
 ·rw[h3 c (by omega)]
  unfold inB;rw[List.any_eq_false];intro b hb;have:=List.all_eq_true.1 h2 b hb;simp at this ⊢;omega
def nsB(c:Int):Bool:=(decide (65≤c) && decide (c≤90)) || (decide (97≤c) && decide (c≤122)) || decide (c=95)
theorem zhN{c:Int}(h:nsP c):nsB c=true:=by
 unfold nsP at h;simp[nsB];omega
theorem zhM{c:Int}(h:¬nsP c):nsB c=false:=by
 unfold nsP at h;simp[nsB];omega
def diB(c:Int):Bool:=decide (48≤c) && decide (c≤57)
def enB(c:Int):Bool:=decide (c=9) || decide (c=10) || decide (c=13)
def bkB(c:Int):Bool:=decide (c=9) || decide (c=10) || decide (c=13) || decide (c=32) || decide (c=44)
theorem zbl(c:Int):inB c lettersC=nsB c:=zfO _ nsB (by decide +kernel) (by decide +kernel) (fun c h=>by simp[nsB];omega) c
theorem zb9(c:Int):inB c digitsC=diB c:=zfO _ diB (by decide +kernel) (by decide +kernel) (fun c h=>by simp[diB];omega) c
theorem zhj(c:Int):inB c endsC=enB c:=zfO _ enB (by decide +kernel) (by decide +kernel) (fun c h=>by simp[enB];omega) c
theorem zez(c:Int):inB c blanksC=bkB c:=zfO _ bkB (by decide +kernel) (by decide +kernel) (fun c h=>by simp[bkB];omega) c
theorem zcv(c:Int)(s:ByteArray)(b:Bool)(w:World)(hs:s.size≤maxLen)(h:inB c s=b) :
  Calls prog 125 #[.int .i32 c,.string s] w fun e w'=>e = .returned (.bool b)∧w'=w:=by
 subst h;exact zmJ c s w hs
theorem zgD(c:Int)(w:World)(h1:48≤c)(h2:c≤57) :
  Calls prog 130 #[.int .i32 c] w fun e w'=>e = .returned (.bool true)∧w'=w:=by
 have hd:=Hi (show inB c digitsC=true from by rw[zb9];simp[diB];omega)
 go_enter func130,ntmps130
 go_wp2_with fail
 refine (zcv _ digitsC _ _ (by unfold maxLen;decide) (uh hd)).mono ?_
 rintro e w' ⟨rfl,rfl⟩
 go_wp2
 go_ret
 exact⟨rfl,rfl⟩
theorem zib(c:Int)(w:World)(h:¬(48≤c∧c≤57)) :
  Calls prog 130 #[.int .i32 c] w fun e w'=>e = .returned (.bool false)∧w'=w:=by
 have hd:=Hi (show inB c digitsC=false from by rw[zb9];simp[diB];omega)
 go_enter func130,ntmps130
 go_wp2_with fail
 refine (zcv _ digitsC _ _ (by unfold maxLen;decide) (uh hd)).mono ?_
 rintro e w' ⟨rfl,rfl⟩
 go_wp2
 go_ret
 exact⟨rfl,rfl⟩
theorem zlN(c:Int)(w:World)(h:nsP c) :
  Calls prog 128 #[.int .i32 c] w fun e w'=>e = .returned (.bool true)∧w'=w:=by
 have hd:=Hi (show inB c lettersC=true from by rw[zbl];exact zhN h)
 go_enter func128,ntmps128
 go_wp2_with fail
 refine (zcv _ lettersC _ _ (by unfold maxLen;decide) (uh hd)).mono ?_
 rintro e w' ⟨rfl,rfl⟩
 go_wp2
 go_ret
 exact⟨rfl,rfl⟩
theorem zm6(c:Int)(w:World)(h:¬nsP c) :
  Calls prog 128 #[.int .i32 c] w fun e w'=>e = .returned (.bool false)∧w'=w:=by
 have hd:=Hi (show inB c lettersC=false from by rw[zbl];exact zhM h)
 go_enter func128,ntmps128
 go_wp2_with fail
 refine (zcv _ lettersC _ _ (by unfold maxLen;decide) (uh hd)).mono ?_
 rintro e w' ⟨rfl,rfl⟩
 go_wp2
 go_ret
 exact⟨rfl,rfl⟩
theorem zlL(c:Int)(w:World)(h:nrP c) :
  Calls prog 143 #[.int .i32 c] w fun e w'=>e = .returned (.bool true)∧w'=w:=by
 by_cases h1:nsP c
 ·have hd:=Hi (show inB c lettersC=true from by rw[zbl];exact zhN h1)
  go_enter func143,ntmps143
  go_wp2_with fail
  refine (zcv _ lettersC _ _ (by unfold maxLen;decide) (uh hd)).mono ?_
  rintro e w' ⟨rfl,rfl⟩
  go_wp2
  go_ret
  exact⟨rfl,rfl⟩
 ·have h2:48≤c∧c≤57:=by rcases h with h | h;exact absurd h h1;exact h
  have hd:=Hi (show inB c lettersC=false from by rw[zbl];exact zhM h1)
  have hg:=Hi (show inB c digitsC=true from by rw[zb9];simp[diB];omega)
  clear h
  go_enter func143,ntmps143
  go_wp2_with fail
  refine (zcv _ lettersC _ _ (by unfold maxLen;decide) (uh hd)).mono ?_
  rintro e w' ⟨rfl,rfl⟩
  go_wp2_with fail
  refine (zcv _ digitsC _ _ (by unfold maxLen;decide) (uh hg)).mono ?_
  rintro e w' ⟨rfl,rfl⟩
  go_wp2
  go_ret
  exact⟨rfl,rfl⟩
theorem zm5(c:Int)(w:World)(h:¬nrP c) :
  Calls prog 143 #[.int .i32 c] w fun e w'=>e = .returned (.bool false)∧w'=w:=by
 have h1:¬nsP c:=fun x=>h (.inl x)
 have h2:¬(48≤c∧c≤57):=fun x=>h (.inr x)
 clear h;have hd:=Hi (show inB c lettersC=false from by rw[zbl];exact zhM h1)
 have hg:=Hi (show inB c digitsC=false from by rw[zb9];simp[diB];omega)
 go_enter func143,ntmps143
 go_wp2_with fail
 refine (zcv _ lettersC _ _ (by unfold maxLen;decide) (uh hd)).mono ?_
 rintro e w' ⟨rfl,rfl⟩
 go_wp2_with fail
 refine (zcv _ digitsC _ _ (by unfold maxLen;decide) (uh hg)).mono ?_
 rintro e w' ⟨rfl,rfl⟩
 go_wp2
 go_ret
 exact⟨rfl,rfl⟩
theorem zlI(c:Int)(w:World)(h:blP c) :
  Calls prog 127 #[.int .i32 c] w fun e w'=>e = .returned (.bool true)∧w'=w:=by
 by_cases h1:c=65279
 ·subst h1
  go_enter func127,ntmps127
  go_wp2
  go_ret
  exact⟨rfl,rfl⟩
 ·have hb:(c==65279)=false:=by simpa using h1
  have hd:=Hi (show inB c blanksC=true from by rw[zez];unfold blP at h;simp[bkB];omega)
  clear h h1
  go_enter func127,ntmps127
  go_wp2_with fail
  refine (zcv _ blanksC _ _ (by unfold maxLen;decide) (uh hd)).mono ?_
  rintro e w' ⟨rfl,rfl⟩
  go_wp2
  go_ret
  exact⟨rfl,rfl⟩
theorem zm1(c:Int)(w:World)(h:¬blP c) :
  Calls prog 127 #[.int .i32 c] w fun e w'=>e = .returned (.bool false)∧w'=w:=by
 unfold blP at h;have hb:(c==65279)=false:=by simp;omega
 have hd:=Hi (show inB c blanksC=false from by rw[zez];simp[bkB];omega)
 clear h
 go_enter func127,ntmps127
 go_wp2_with fail
 refine (zcv _ blanksC _ _ (by unfold maxLen;decide) (uh hd)).mono ?_
 rintro e w' ⟨rfl,rfl⟩
 go_wp2
 go_ret
 exact⟨rfl,rfl⟩
def scP(c:Int):Prop:=(0≤c∧c≤55295)∨(57344≤c∧c≤1114111)
theorem zna(c:Int)(w:World)(h:scP c) :
  Calls prog 126 #[.int .i32 c] w fun e w'=>e = .returned (.bool true)∧w'=w:=by
 rcases h with ⟨h1,h2⟩ | ⟨h1,h2⟩
 ·have a1:¬55296≤c:=by omega
  have a2:c≤1114111:=by omega
  go_enter func126,ntmps126
  go_wp2
  go_ret
  exact⟨rfl,rfl⟩
 ·have a1:55296≤c:=by omega
  have a2:¬c≤57343:=by omega
  have a3:0≤c:=by omega
  go_enter func126,ntmps126
  go_wp2
  go_ret
  exact⟨rfl,rfl⟩
theorem znN(c:Int)(w:World)(h:¬scP c) :
  Calls prog 126 #[.int .i32 c] w fun e w'=>e = .returned (.bool false)∧w'=w:=by
 unfold scP at h
 by_cases h1:c<0
 ·have a1:¬55296≤c:=by omega
  have a2:¬0≤c:=by omega
  go_enter func126,ntmps126
  go_wp2
  go_ret
  exact⟨rfl,rfl⟩
 by_cases h2:c≤57343
 ·have a1:55296≤c:=by omega
  go_enter func126,ntmps126
  go_wp2
  go_ret
  exact⟨rfl,rfl⟩
 have a1:55296≤c:=by omega
 have a2:0≤c:=by omega
 have a3:¬c≤1114111:=by omega
 go_enter func126,ntmps126
 go_wp2
 go_ret
 exact⟨rfl,rfl⟩
theorem zlO(c:Int)(w:World)(h:soP c) :
  Calls prog 100 #[.int .i32 c] w fun e w'=>e = .returned (.bool true)∧w'=w:=by
 unfold soP at h
 by_cases h1:c<32
 ·have hd:=Hi (show inB c endsC=true from by rw[zhj];simp[enB];omega)
  clear h
  go_enter func100,ntmps100
  go_wp2_with fail
  refine (zcv _ endsC _ _ (by unfold maxLen;decide) (uh hd)).mono ?_
  rintro e w' ⟨rfl,rfl⟩
  go_wp2
  go_ret
  exact⟨rfl,rfl⟩
 have h2:c<65536:=by omega
 have h3:scP c:=by unfold scP;omega
 clear h
 go_enter func100,ntmps100
 go_wp2_with fail
 refine (zna _ _ h3).mono ?_
 rintro e w' ⟨rfl,rfl⟩
 go_wp2
 go_ret
 exact⟨rfl,rfl⟩
theorem zm9(c:Int)(w:World)(h:¬soP c) :
  Calls prog 100 #[.int .i32 c] w fun e w'=>e = .returned (.bool false)∧w'=w:=by
 unfold soP at h
 by_cases h1:c<32
 ·have hd:=Hi (show inB c endsC=false from by rw[zhj];simp[enB];omega)
  clear h
  go_enter func100,ntmps100
  go_wp2_with fail
  refine (zcv _ endsC _ _ (by unfold maxLen;decide) (uh hd)).mono ?_
  rintro e w' ⟨rfl,rfl⟩
  go_wp2
  go_ret
  exact⟨rfl,rfl⟩
 by_cases h2:c<65536
 ·have h3:¬scP c:=by unfold scP;omega
  clear h
  go_enter func100,ntmps100
  go_wp2_with fail
  refine (znN _ _ h3).mono ?_
  rintro e w' ⟨rfl,rfl⟩
  go_wp2
  go_ret
  exact⟨rfl,rfl⟩
 clear h
 go_enter func100,ntmps100
 go_wp2
 go_ret
 exact⟨rfl,rfl⟩
abbrev smallC:ByteArray:=⟨#[48,49,50,51,52,53,54,55,56,57,97,98,99,100,101,102]⟩
abbrev largeC:ByteArray:=⟨#[48,49,50,51,52,53,54,55,56,57,65,66,67,68,69,70]⟩
theorem zhh(k:Nat)(h:k<16):(smallC[k]'(by exact h)).toNat=if k<10 then 48+k else 87+k:=by
 have:∀ k:Fin 16,(smallC[k.val]'(by exact k.isLt)).toNat=if k.val<10 then 48+k.val else 87+k.val:=by decide +kernel
 exact this ⟨k,h⟩
theorem zhg(k:Nat)(h:k<16):(largeC[k]'(by exact h)).toNat=if k<10 then 48+k else 55+k:=by
 have:∀ k:Fin 16,(largeC[k.val]'(by exact k.isLt)).toNat=if k.val<10 then 48+k.val else 55+k.val:=by decide +kernel
 exact this ⟨k,h⟩
theorem zkZ(c:Int):hexV c<16:=by
 unfold hexV;repeat' split
 all_goals omega
theorem zjd(c:Int)(k:Nat)(h:k<16)(a b:Nat)(ha:a=if k<10 then 48+k else 87+k)(hb:b=if k<10 then 48+k else 55+k):((a:Int)=c∨(b:Int)=c) ↔ hexV c=(k:Int):=by
 unfold hexV
 by_cases k10:k<10
 ·rw[if_pos k10] at ha hb
  repeat' split
  all_goals omega
 ·rw[if_neg k10] at ha hb
  repeat' split
  all_goals omega
theorem zjL(c:Int)(w:World) :
  Calls prog 190 #[.int .i32 c] w fun e w'=>e = .returned (.int .i64 (hexV c))∧w'=w:=by
 obtain⟨S,hS,sS,vS⟩:∃ S:ByteArray,Hid (S=⟨#[48,49,50,51,52,53,54,55,56,57,97,98,99,100,101,102]⟩)∧S.size=16∧∀ k (h:k<S.size),S[k].toNat=if k<10 then 48+k else 87+k:=⟨smallC,rfl,rfl,fun k h=>zhh k h⟩
 obtain⟨L,hL,sL,vL⟩:∃ L:ByteArray,Hid (L=⟨#[48,49,50,51,52,53,54,55,56,57,65,66,67,68,69,70]⟩)∧L.size=16∧∀ k (h:k<L.size),L[k].toNat=if k<10 then 48+k else 55+k:=⟨largeC,rfl,rfl,fun k h=>zhg k h⟩
 have VS:=Hi vS;have VL:=Hi vL;have zS:16≤S.size:=by omega
 have zL:16≤L.size:=by omega
 clear vS vL sS sL
 go_enter func190,ntmps190
 go_wp2
 rw[←uh hS,←uh hL]
 go_loop [5] (fun i=>∃ k:Nat,k≤16∧i = .int .i64 k∧Hid (hexV c = -1∨(k:Int)≤hexV c)) (fun i=>16-(intOf i).toNat)
 case atStart =>
  refine⟨0,by omega,rfl,Hi ?_⟩
  unfold hexV;repeat' split
  all_goals omega
 case round =>
  obtain⟨k,hk,rfl,hv⟩:=hrel
  by_cases hlt:k<16
  ·have hit:=zjd c k hlt _ _ (uh VS k (by omega)) (uh VL k (by omega))
   have kS:k<S.size:=by omega
   have kL:k<L.size:=by omega
   by_cases e1:(S[k].toNat:Int)=c
   ·have hy:=Hi (hit.1 (.inl e1))
    have b1:(wrap32 (S[k].toNat:Int)==c)=true:=by rw[zaB];simpa using e1
    clear e1 hit
    go_wp2
    go_ret
    rw[uh hy];exact⟨rfl,rfl⟩
   ·have b1:(wrap32 (S[k].toNat:Int)==c)=false:=by rw[zaB];simpa using e1
    by_cases e2:(L[k].toNat:Int)=c
    ·have hy:=Hi (hit.1 (.inr e2))
     have b2:(wrap32 (L[k].toNat:Int)==c)=true:=by rw[zaB];simpa using e2
     clear e1 e2 hit
     go_wp2
     go_ret
     rw[uh hy];exact⟨rfl,rfl⟩
    ·have b2:(wrap32 (L[k].toNat:Int)==c)=false:=by rw[zaB];simpa using e2
     have hy:=Hi (show ¬hexV c=(k:Int) from fun h=>by rcases hit.2 h with h | h;exact e1 h;exact e2 h)
     clear e1 e2 hit
     go_wp2
     go_round
     case rel =>
      have h1:=uh hv;have h2:=uh hy;exact⟨k+1,by omega,by go_num,Hi (by omega)⟩
     case measure=>simp[intOf];omega
  ·have hy:=Hi (show hexV c = -1 from by have:=zkZ c;have h1:=uh hv;omega)
   go_wp2
   go_ret
   rw[uh hy];exact⟨rfl,rfl⟩
end ints
namespace lx
open ints (Hi uh)
open mem
theorem zeb(c:Int)(w:World):Calls prog 100 #[.int .i32 c] w fun e w'=>e = .returned (.bool (soB c))∧w'=w:=by
 cases h:soB c with
 | true=>exact ints.zlO c w (by unfold soB at h;have:=of_decide_eq_true h;unfold ints.soP;omega)
 | false=>exact ints.zm9 c w (fun e=>by unfold soB at h;have:=of_decide_eq_false h;unfold ints.soP at e;omega)
theorem zlH(c:Int)(w:World):Calls prog 127 #[.int .i32 c] w fun e w'=>e = .returned (.bool (blB c))∧w'=w:=by
 cases h:blB c with
 | true=>exact ints.zlI c w (by unfold blB at h;have:=of_decide_eq_true h;unfold ints.blP;omega)
 | false=>exact ints.zm1 c w (fun e=>by unfold blB at h;have:=of_decide_eq_false h;unfold ints.blP at e;omega)
theorem zlM(c:Int)(w:World):Calls prog 128 #[.int .i32 c] w fun e w'=>e = .returned (.bool (nsB c))∧w'=w:=by
 cases h:nsB c with
 | true=>exact ints.zlN c w (by unfold nsB at h;have:=of_decide_eq_true h;unfold ints.nsP;omega)
 | false=>exact ints.zm6 c w (fun e=>by unfold nsB at h;have:=of_decide_eq_false h;unfold ints.nsP at e;omega)
theorem zii(c:Int)(w:World):Calls prog 143 #[.int .i32 c] w fun e w'=>e = .returned (.bool (nrB c))∧w'=w:=by
 cases h:nrB c with
 | true=>exact ints.zlL c w (by unfold nrB at h;have:=of_decide_eq_true h;unfold ints.nrP ints.nsP;omega)
 | false=>exact ints.zm5 c w (fun e=>by unfold nrB at h;have:=of_decide_eq_false h;unfold ints.nrP ints.nsP at e;omega)
theorem zlJ(c:Int)(w:World):Calls prog 130 #[.int .i32 c] w fun e w'=>e = .returned (.bool (digB c))∧w'=w:=by
 by_cases h:48≤c∧c≤57
 ·rw[show digB c=true from by unfold digB;simp[h]]
  exact ints.zgD c w h.1 h.2
 ·rw[show digB c=false from by unfold digB;simp;omega]
  exact ints.zib c w h
theorem zlf(l:List Int)(k:Nat)(h:k<l.length):(l.take (k+1)).map lkc=(l.take k).map lkc++[lkc (l.getD k 0)]:=by
 rw[List.take_add_one,List.map_append];simp[List.getD,h]
theorem zlg(a:Option Addr)(n c:Nat)(l:List Int)(cl:Bool)(w:World)(h:Row .i32 w a n c l)(hn:n≤1099511627776) :
  Calls prog 77 #[.slice a n c,.bool cl] w fun e w'=>∃ v,e = .returned v∧w'.ownsRow w.heap.size 21 1 v (lkZ l cl).length ((lkZ l cl).map (Value.int .i32))∧Below w.heap.size w w':=by
 obtain⟨i0,hi,hz0,hz1,hz2⟩:=info_parts info32;have HL:=Hi h.len
 go_enter func77,ntmps77
 go_wp2_with fail
 go_loopw [5,6] (fun v i wr=>∃ (k:Nat) (X:List Int),k≤n∧i = .int .i64 k∧X.length≤k∧Hid (X=(l.take k).map lkc)∧wr.ownsRow w.heap.size 21 1 v X.length (X.map (Value.int .i32))∧Below w.heap.size w wr) (fun _ i _=>n-(intOf i).toNat)
 case atStart=>exact⟨0,[],Nat.zero_le _,rfl,lr _,Hi (by simp),World.ownsRow_nil _ _ _ _,Below.refl _ _⟩
 case round =>
  obtain⟨k,X,hk,rfl,hXl,hX,hown,hbel⟩:=hrel;have hsz:=hbel.size
  by_cases hlt:k<n
  ·rcases h.at_ with h0 | ⟨b,off,rfl,hbw,hcell⟩
   ·omega
   have hle:=h.le;have c0:=(hbel.cell (p:=⟨b,off+k,none⟩) hbw).trans (hcell k hlt);have Hs:=Hi (zlf l k (by rw[uh HL];exact hlt))
   obtain⟨x,hx⟩:∃ x,x=l.getD k 0:=⟨_,rfl⟩;rw[←hx] at c0 Hs;clear hx hcell;have ki:(k:Int)<(n:Int):=by omega
   obtain⟨aB,cB,rfl⟩:=zaz hown
   cases hs:soB x with
   | true =>
    have Hs2:=Hi (show X++[x]=(l.take (k+1)).map lkc from by rw[uh Hs,←uh hX];simp[lkc,hs])
    have S:=Hi (fun W=>zeb x W)
    rw[hs] at S;clear Hs hs
    go_wp2_with fail
    refine (uh S _).mono ?_
    rintro e w2 ⟨rfl,rfl⟩
    go_wp2_with (at_builtin;refine zau _ rfl _ _ 109 rfl w.heap.size 21 i0 .i32 4 underlying109 hi hz0 hz1 hz2 _ _ _ rfl hown _ rfl (by unfold maxLen;omega) (by omega) (by omega) ?_;intro v' wC hown' hbC)
    refine⟨⟨k+1,X++[x],by omega,by go_num,by simp;omega,Hs2,?_,hbel.trans hbC⟩,by simp only[intOf];omega⟩
    rw[List.length_append,List.map_append];exact hown'
   | false =>
    have Hs2:=Hi (show X++[-1]=(l.take (k+1)).map lkc from by rw[uh Hs,←uh hX];simp[lkc,hs])
    have S:=Hi (fun W=>zeb x W)
    rw[hs] at S;clear Hs hs
    go_wp2_with fail
    refine (uh S _).mono ?_
    rintro e w2 ⟨rfl,rfl⟩
    go_wp2_with (at_builtin;refine zau _ rfl _ _ 109 rfl w.heap.size 21 i0 .i32 4 underlying109 hi hz0 hz1 hz2 _ _ _ rfl hown _ rfl (by unfold maxLen;omega) (by omega) (by omega) ?_;intro v' wC hown' hbC)
    refine⟨⟨k+1,X++[-1],by omega,by go_num,by simp;omega,Hs2,?_,hbel.trans hbC⟩,by simp only[intOf];omega⟩
    rw[List.length_append,List.map_append];exact hown'
  ·obtain rfl:k=n:=by omega
   have hX2:=Hi (show X=l.map lkc from by rw[uh hX,List.take_of_length_le (by rw[uh HL];omega)])
   clear hX;obtain⟨aB,cB,rfl⟩:=zaz hown
   cases cl with
   | true =>
    have hfin:=Hi (show X++[-2]=lkZ l true from by rw[uh hX2];rfl)
    go_wp2_with (at_builtin;refine zau _ rfl _ _ 109 rfl w.heap.size 21 i0 .i32 4 underlying109 hi hz0 hz1 hz2 _ _ _ rfl hown _ rfl (by unfold maxLen;omega) (by omega) (by omega) ?_;intro v' wC hown' hbC)
    go_ret
    refine⟨_,rfl,?_,hbel.trans hbC⟩
    rw[←uh hfin,List.length_append,List.map_append];exact hown'
   | false =>
    have hfin:=Hi (show (X++[-1])++[-2]=lkZ l false from by rw[uh hX2];simp[lkZ])
    go_wp2_with (first
     | (at_builtin;refine zau _ rfl _ _ 109 rfl w.heap.size 21 i0 .i32 4 underlying109 hi hz0 hz1 hz2 _ _ _ rfl hown _ rfl (by unfold maxLen;omega) (by omega) (by omega) ?_;intro v' wC hown' hbC;obtain⟨aC,cC,rfl⟩:=zaz hown';have hbs2:=(hbel.trans hbC).size)
     | (at_builtin;refine zau _ rfl _ _ 109 rfl w.heap.size 21 i0 .i32 4 underlying109 hi hz0 hz1 hz2 _ _ _ rfl hown' _ rfl (by unfold maxLen;omega) (by omega) (by omega) ?_;intro v2 wD hown2 hbD))
    go_ret
    refine⟨_,rfl,?_,(hbel.trans hbC).trans hbD⟩
    rw[←uh hfin,List.length_append,List.length_append,List.map_append,List.map_append];exact hown2
theorem zel{w:World}{a:Option Addr}{n c:Nat}{l:List Int}{cl:Bool}(h:Row .i32 w a n c (lkZ l cl)):∃ b off,a=some ⟨b,off,none⟩∧b<w.heap.size∧l.length<n∧n≤l.length+2∧n≤c∧∀ i,i<n→w.cell? ⟨b,off+i,none⟩=some (.int .i32 (zA l cl i)):=by
 have h1:=zcy l cl;have h2:=h.len
 rcases h.at_ with h0 | ⟨b,off,rfl,hbw,hcell⟩
 ·omega
 ·exact⟨b,off,rfl,hbw,by omega,by omega,h.le,fun i hi=>hcell i hi⟩
theorem zeZ(l:List Int)(cl:Bool)(k:Nat)(hk:k≤l.length):(0≤zA l cl k) ↔ soB (cAt l k)=true:=by
 cases h:soB (cAt l k) with
 | true=>rw[znB l cl k h];have:=zcF h;simp;omega
 | false=>have:=znQ l cl k hk h;simp;omega
theorem zkg(l:List Int)(k:Nat)(h:soB (cAt l k)=false):ign l true k=k∧ign l false k=k:=by
 have h1:cAt l k≠10∧cAt l k≠13∧cAt l k≠35:=⟨fun e=>by rw[e] at h;revert h;decide,fun e=>by rw[e] at h;revert h;decide,fun e=>by rw[e] at h;revert h;decide⟩
 have h2:blB (cAt l k)=false:=by
  cases e:blB (cAt l k) with
  | false=>rfl
  | true=>rw[zma _ e] at h;cases h
 constructor
 ·rw[zgs,if_neg (fun e=>by rcases e with e | e;exact h1.1 e;exact h1.2.1 e),h,if_neg (by decide)]
 ·rw[zex,h2,if_neg (by decide),if_neg h1.2.2]
theorem zkf(l:List Int)(k:Nat)(h:cAt l k=10∨cAt l k=13):ign l true k=ign l false k:=by
 rw[zgs,if_pos h,zex l k,if_pos (by rcases h with h | h <;> rw[h] <;> decide)]
theorem zki(l:List Int)(k:Nat)(h:¬(cAt l k=10∨cAt l k=13))(hs:soB (cAt l k)=true):ign l true k=ign l true (k+1):=by
 rw[zgs,if_neg h,if_pos hs]
theorem zgY(a:Option Addr)(n c:Nat)(l:List Int)(cl:Bool)(i:Nat)(w:World)(h:Row .i32 w a n c (lkZ l cl))(hn:n≤1099511627778)(hi:i≤l.length) :
  Calls prog 102 #[.slice a n c,.int .i64 (i:Int)] w fun e w'=>e = .returned (.int .i64 (ign l false i:Nat))∧Below w.heap.size w w':=by
 obtain⟨b,off,rfl,hbw,hln,_,hnc,hcell⟩:=zel h;have HC:=Hi hcell;obtain⟨R,hR⟩:∃ R,R=ign l false i:=⟨_,rfl⟩;rw[←hR];have HR:=Hi hR.symm;obtain⟨N,hN⟩:∃ N,N=l.length:=⟨_,rfl⟩;have HN:=Hi hN;rw[←hN] at hi hln;clear hR hcell h hN
 go_enter func102,ntmps102
 go_wp2_with fail
 go_loopg [1] (N+1) (fun g vi wr=>∃ k:Nat,k≤N∧N+1≤g+k∧vi = .int .i64 k∧Hid (ign l false k=R)∧Below w.heap.size w wr)
 case atStart=>exact⟨i,hi,by omega,rfl,HR,Below.refl _ _⟩
 case round =>
  obtain⟨k,hk,hg,rfl,hik,hbel⟩:=hrel;have c0:=(hbel.cell (p:=⟨b,off+k,none⟩) hbw).trans (uh HC k (by omega))
  have ki:(k:Int)<(n:Int):=by omega
  have HZ:=Hi (zeZ l cl k (by rw[←uh HN];exact hk))
  have HB:=Hi (zdq blB (by decide) (by decide) (by decide) zma l cl k)
  have H35:=Hi (zbh l cl k 35 (by decide))
  obtain⟨x,hx⟩:∃ x,x=zA l cl k:=⟨_,rfl⟩;rw[←hx] at c0 HZ HB H35;clear hx;have B:=Hi (fun W=>zlH x W)
  cases hb:blB x with
  | true =>
   have hcb:blB (cAt l k)=true:=by rw[←uh HB];exact hb
   have hlt:k<N:=by rw[uh HN];exact zaE rfl (fun e=>by rw[e] at hcb;revert hcb;decide)
   have hik2:=Hi (show ign l false (k+1)=R from by have e:=uh hik;rw[zex,if_pos hcb] at e;exact e)
   rw[hb] at B;clear hb hcb
   go_wp2_with fail
   refine (uh B _).mono ?_
   rintro e w2 ⟨rfl,rfl⟩
   go_wp2_with fail
   go_roundg (gk-1)
   case rel=>exact⟨k+1,by omega,by omega,by go_num,hik2,hbel⟩
   case measure=>omega
  | false =>
   have hcb:blB (cAt l k)=false:=by rw[←uh HB];exact hb
   rw[hb] at B
   by_cases h35:x=35
   ·have hc35:=Hi ((uh H35).1 h35)
    have hik2:=Hi (show ign l true k=R from by
     have e:=uh hik;rw[zex,hcb,if_neg (by decide),if_pos (uh hc35)] at e
     rw[zki l k (by rw[uh hc35];decide) (by rw[uh hc35];decide)]
     exact e)
    subst h35;clear hb hcb
    go_wp2_with fail
    refine (uh B _).mono ?_
    rintro e w2 ⟨rfl,rfl⟩
    go_wp2_with fail
    obtain⟨G,hG⟩:∃ G,G=gk:=⟨_,rfl⟩;have HG:=Hi hG;clear hG
    go_loopg [1] (N+1) (fun g vi wr=>∃ m:Nat,k≤m∧m≤N∧N+1≤g+m∧vi = .int .i64 m∧Hid (ign l true m=R)∧Below w.heap.size w wr)
    case atStart=>exact⟨k,lr _,hk,by omega,rfl,hik2,hbel⟩
    case round =>
     obtain⟨m,hkm,hm,hg2,rfl,him,hbel2⟩:=hrel;have d0:=(hbel2.cell (p:=⟨b,off+m,none⟩) hbw).trans (uh HC m (by omega))
     have mi:(m:Int)<(n:Int):=by omega
     have GZ:=Hi (zeZ l cl m (by rw[←uh HN];exact hm))
     have G10:=Hi (zbh l cl m 10 (by decide))
     have G13:=Hi (zbh l cl m 13 (by decide))
     have G35:=Hi (zbh l cl m 35 (by decide))
     obtain⟨y,hy⟩:∃ y,y=zA l cl m:=⟨_,rfl⟩;rw[←hy] at d0 GZ G10 G13 G35;clear hy
     by_cases hneg:0≤y
     ·have hso:=(uh GZ).1 hneg
      by_cases h10:y=10
      ·have hik3:=Hi (show ign l false m=R from by rw[←zkf l m (.inl ((uh G10).1 h10))];exact uh him)
       have hmk:k<m:=by
        rcases Nat.lt_or_ge k m with h1 | h1
        ·exact h1
        ·obtain rfl:m=k:=by omega
         have:=(uh G10).1 h10;rw[uh hc35] at this;omega
       subst h10
       go_wp2_with fail
       go_roundg (G-1)
       case rel=>exact⟨m,hm,by have:=uh HG;omega,rfl,hik3,hbel2⟩
       case measure=>have:=uh HG;omega
      by_cases h13:y=13
      ·have hik3:=Hi (show ign l false m=R from by rw[←zkf l m (.inr ((uh G13).1 h13))];exact uh him)
       have hmk:k<m:=by
        rcases Nat.lt_or_ge k m with h1 | h1
        ·exact h1
        ·obtain rfl:m=k:=by omega
         have:=(uh G13).1 h13;rw[uh hc35] at this;omega
       subst h13
       go_wp2_with fail
       go_roundg (G-1)
       case rel=>exact⟨m,hm,by have:=uh HG;omega,rfl,hik3,hbel2⟩
       case measure=>have:=uh HG;omega
      ·have e10:(y != 10)=true:=by simpa using h10
       have e13:(y != 13)=true:=by simpa using h13
       have him2:=Hi (show ign l true (m+1)=R from by
        rw[←zki l m (fun e=>by rcases e with e | e;exact h10 ((uh G10).2 e);exact h13 ((uh G13).2 e)) hso]
        exact uh him)
       have hlt:m<N:=by rw[uh HN];exact zaE rfl (fun e=>by rw[e] at hso;revert hso;decide)
       clear h10 h13 hso
       go_wp2_with fail
       go_roundg (gk-1)
       case rel=>exact⟨m+1,by omega,by omega,by omega,by go_num,him2,hbel2⟩
       case measure=>omega
     ·have hso:soB (cAt l m)=false:=by
       cases e:soB (cAt l m) with
       | false=>rfl
       | true=>exact absurd ((uh GZ).2 e) hneg
      have hik3:=Hi (show ign l false m=R from by rw[(zkg l m hso).2,←(zkg l m hso).1];exact uh him)
      have hmk:k<m:=by
       rcases Nat.lt_or_ge k m with h1 | h1
       ·exact h1
       ·obtain rfl:m=k:=by omega
        rw[uh hc35] at hso;exact absurd hso (by decide)
      clear hso
      go_wp2_with fail
      go_roundg (G-1)
      case rel=>exact⟨m,hm,by have:=uh HG;omega,rfl,hik3,hbel2⟩
      case measure=>have:=uh HG;omega
   ·have e35:(x != 35)=true:=by simpa using h35
    have hik2:=Hi (show k=R from by
     have e:=uh hik;rw[zex,hcb,if_neg (by decide),if_neg (fun e=>h35 ((uh H35).2 e))] at e
     exact e)
    clear hb hcb h35
    go_wp2_with fail
    refine (uh B _).mono ?_
    rintro e w2 ⟨rfl,rfl⟩
    go_wp2_with fail
    go_ret
    exact⟨by rw[←uh hik2];rfl,hbel⟩
theorem zjN(a:Option Addr)(n c:Nat)(l:List Int)(cl:Bool)(i:Nat)(w:World)(h:Row .i32 w a n c (lkZ l cl))(hn:n≤1099511627778)(hi:i≤l.length) :
  Calls prog 129 #[.slice a n c,.int .i64 (i:Int)] w fun e w'=>e = .returned (.int .i64 (nam l i:Nat))∧Below w.heap.size w w':=by
 obtain⟨b,off,rfl,hbw,hln,_,hnc,hcell⟩:=zel h;have HC:=Hi hcell;obtain⟨R,hR⟩:∃ R,R=nam l i:=⟨_,rfl⟩;rw[←hR];have HR:=Hi hR.symm;obtain⟨N,hN⟩:∃ N,N=l.length:=⟨_,rfl⟩;have HN:=Hi hN;rw[←hN] at hi hln;clear hR hcell h hN
 go_enter func129,ntmps129
 go_wp2_with fail
 go_loopg [1] (N+1) (fun g vi wr=>∃ k:Nat,k≤N∧N+1≤g+k∧vi = .int .i64 k∧Hid (nam l k=R)∧Below w.heap.size w wr)
 case atStart=>exact⟨i,hi,by omega,rfl,HR,Below.refl _ _⟩
 case round =>
  obtain⟨k,hk,hg,rfl,hik,hbel⟩:=hrel;have c0:=(hbel.cell (p:=⟨b,off+k,none⟩) hbw).trans (uh HC k (by omega))
  have ki:(k:Int)<(n:Int):=by omega
  have HB:=Hi (zdq nrB (by decide) (by decide) (by decide) zln l cl k)
  obtain⟨x,hx⟩:∃ x,x=zA l cl k:=⟨_,rfl⟩;rw[←hx] at c0 HB;clear hx;have B:=Hi (fun W=>zii x W)
  cases hb:nrB x with
  | true =>
   have hcb:nrB (cAt l k)=true:=by rw[←uh HB];exact hb
   have hlt:k<N:=by rw[uh HN];exact zaE rfl (fun e=>by rw[e] at hcb;revert hcb;decide)
   have hik2:=Hi (show nam l (k+1)=R from by have e:=uh hik;rw[zeI,if_pos hcb] at e;exact e)
   rw[hb] at B;clear hb hcb
   go_wp2_with fail
   refine (uh B _).mono ?_
   rintro e w2 ⟨rfl,rfl⟩
   go_wp2_with fail
   go_roundg (gk-1)
   case rel=>exact⟨k+1,by omega,by omega,by go_num,hik2,hbel⟩
   case measure=>omega
  | false =>
   have hcb:nrB (cAt l k)=false:=by rw[←uh HB];exact hb
   have hik2:=Hi (show k=R from by have e:=uh hik;rw[zeI,hcb,if_neg (by decide)] at e;exact e)
   rw[hb] at B;clear hb hcb
   go_wp2_with fail
   refine (uh B _).mono ?_
   rintro e w2 ⟨rfl,rfl⟩
   go_wp2_with fail
   go_ret
   exact⟨by rw[←uh hik2];rfl,hbel⟩
theorem zej(a:Option Addr)(n c:Nat)(s:List Int)(i:Nat)(x:Int)(w:World)(h:Row .i32 w a n c s)(hn:n≤1099511627778)(hi:i≤2199023255552) :
  Calls prog 145 #[.slice a n c,.int .i64 (i:Int),.int .i32 x] w fun e w'=>e = .returned (.bool (th3 s i x))∧w'=w:=by
 have hT:=Hi (show th3 s i x=decide (i+2<s.length∧s.getD i 0=x∧s.getD (i+1) 0=x∧s.getD (i+2) 0=x) from rfl)
 obtain⟨R,hR⟩:∃ R,R=th3 s i x:=⟨_,rfl⟩;rw[←hR] at hT ⊢;clear hR;have HL:=Hi h.len
 by_cases h2:i+2<n
 ·rcases h.at_ with h0 | ⟨b,off,rfl,hbw,hcell⟩
  ·omega
  have c0:=hcell i (by omega)
  have c1:=hcell (i+1) (by omega)
  have c2:=hcell (i+2) (by omega)
  obtain⟨x0,hx0⟩:∃ x,x=s.getD i 0:=⟨_,rfl⟩;obtain⟨x1,hx1⟩:∃ x,x=s.getD (i+1) 0:=⟨_,rfl⟩;obtain⟨x2,hx2⟩:∃ x,x=s.getD (i+2) 0:=⟨_,rfl⟩;rw[←hx0] at c0 hT;rw[←hx1] at c1 hT;rw[←hx2] at c2 hT;clear hx0 hx1 hx2 hcell;have i2:(i:Int)+2<(n:Int):=by omega
  by_cases e0:x0=x
  ·have b0:(x0==x)=true:=by simpa using e0
   by_cases e1:x1=x
   ·have b1:(x1==x)=true:=by simpa using e1
    by_cases e2:x2=x
    ·have b2:(x2==x)=true:=by simpa using e2
     have hF:=Hi (show R=true from by rw[uh hT];exact decide_eq_true ⟨by rw[uh HL];exact h2,e0,e1,e2⟩)
     clear hT e0 e1 e2
     go_enter func145,ntmps145
     go_wp2
     go_ret
     exact⟨by rw[uh hF];first | rfl | simp[b2],rfl⟩
    ·have b2:(x2==x)=false:=by simpa using e2
     have hF:=Hi (show R=false from by rw[uh hT];exact decide_eq_false (fun e=>e2 e.2.2.2))
     clear hT e0 e1 e2
     go_enter func145,ntmps145
     go_wp2
     go_ret
     exact⟨by rw[uh hF];first | rfl | simp[b2],rfl⟩
   ·have b1:(x1==x)=false:=by simpa using e1
    have hF:=Hi (show R=false from by rw[uh hT];exact decide_eq_false (fun e=>e1 e.2.2.1))
    clear hT e0 e1
    go_enter func145,ntmps145
    go_wp2
    go_ret
    exact⟨by rw[uh hF];first | rfl | simp,rfl⟩
  ·have b0:(x0==x)=false:=by simpa using e0
   have hF:=Hi (show R=false from by rw[uh hT];exact decide_eq_false (fun e=>e0 e.2.1))
   clear hT e0
   go_enter func145,ntmps145
   go_wp2
   go_ret
   exact⟨by rw[uh hF];first | rfl | simp,rfl⟩
 ·have i2:¬(i:Int)+2<(n:Int):=by omega
  have hF:=Hi (show R=false from by rw[uh hT];exact decide_eq_false (fun e=>h2 (by rw[←uh HL];exact e.1)))
  clear hT
  go_enter func145,ntmps145
  go_wp2
  go_ret
  exact⟨by rw[uh hF];first | rfl | simp,rfl⟩
end lx
namespace mem
open ints (Hi uh)
theorem znd(c:Int)(w:World):Calls prog 163 #[.int .i64 0,.int .i32 c] w fun e w'=>e = .returned (.int .i64 (stepZ 0 c))∧Below w.heap.size w w':=by
 by_cases c45:c=45
 ·subst c45
  go_enter func163,ntmps163
  go_wp2
  go_ret
  exact⟨rfl,Below.refl _ _⟩
 by_cases c43:c=43
 ·subst c43
  go_enter func163,ntmps163
  go_wp2
  go_ret
  exact⟨rfl,Below.refl _ _⟩
 by_cases c46:c=46
 ·subst c46
  go_enter func163,ntmps163
  go_wp2
  go_ret
  exact⟨rfl,Below.refl _ _⟩
 by_cases c48:c=48
 ·subst c48
  go_enter func163,ntmps163
  go_wp2
  go_ret
  exact⟨rfl,Below.refl _ _⟩
 by_cases c101:c=101
 ·subst c101
  go_enter func163,ntmps163
  go_wp2
  go_ret
  exact⟨rfl,Below.refl _ _⟩
 by_cases c69:c=69
 ·subst c69
  go_enter func163,ntmps163
  go_wp2
  go_ret
  exact⟨rfl,Below.refl _ _⟩
 have n45:(c==45)=false:=by simpa using c45
 have n43:(c==43)=false:=by simpa using c43
 have n46:(c==46)=false:=by simpa using c46
 have n48:(c==48)=false:=by simpa using c48
 have n101:(c==101)=false:=by simpa using c101
 have n69:(c==69)=false:=by simpa using c69
 by_cases d1:48≤c
 ·by_cases d2:c≤57
  ·skip
   have hd:digB c=true:=by simp[digB];omega
   have HS:=Hi (show stepZ 0 c=3 from by unfold stepZ;rw[hd];(repeat' split) <;> first | rfl | omega | simp_all)
   clear hd
   go_enter func163,ntmps163
   go_wp2
   go_ret
   exact⟨by rw[uh HS];rfl,Below.refl _ _⟩
  ·skip
   have hd:digB c=false:=by simp[digB];omega
   have HS:=Hi (show stepZ 0 c = -1 from by unfold stepZ;rw[hd];(repeat' split) <;> first | rfl | omega | simp_all)
   clear hd
   go_enter func163,ntmps163
   go_wp2
   go_ret
   exact⟨by rw[uh HS];rfl,Below.refl _ _⟩
 ·skip
  have hd:digB c=false:=by simp[digB];omega
  have HS:=Hi (show stepZ 0 c = -1 from by unfold stepZ;rw[hd];(repeat' split) <;> first | rfl | omega | simp_all)
  clear hd
  go_enter func163,ntmps163
  go_wp2
  go_ret
  exact⟨by rw[uh HS];rfl,Below.refl _ _⟩
theorem zne(c:Int)(w:World):Calls prog 163 #[.int .i64 1,.int .i32 c] w fun e w'=>e = .returned (.int .i64 (stepZ 1 c))∧Below w.heap.size w w':=by
 by_cases c45:c=45
 ·subst c45
  go_enter func163,ntmps163
  go_wp2
  go_ret
  exact⟨rfl,Below.refl _ _⟩
 by_cases c43:c=43
 ·subst c43
  go_enter func163,ntmps163
  go_wp2
  go_ret
  exact⟨rfl,Below.refl _ _⟩
 by_cases c46:c=46
 ·subst c46
  go_enter func163,ntmps163
  go_wp2
  go_ret
  exact⟨rfl,Below.refl _ _⟩
 by_cases c48:c=48
 ·subst c48
  go_enter func163,ntmps163
  go_wp2
  go_ret
  exact⟨rfl,Below.refl _ _⟩
 by_cases c101:c=101
 ·subst c101
  go_enter func163,ntmps163
  go_wp2
  go_ret
  exact⟨rfl,Below.refl _ _⟩
 by_cases c69:c=69
 ·subst c69
  go_enter func163,ntmps163
  go_wp2
  go_ret
  exact⟨rfl,Below.refl _ _⟩
 have n45:(c==45)=false:=by simpa using c45
 have n43:(c==43)=false:=by simpa using c43
 have n46:(c==46)=false:=by simpa using c46
 have n48:(c==48)=false:=by simpa using c48
 have n101:(c==101)=false:=by simpa using c101
 have n69:(c==69)=false:=by simpa using c69
 by_cases d1:48≤c
 ·by_cases d2:c≤57
  ·skip
   have hd:digB c=true:=by simp[digB];omega
   have HS:=Hi (show stepZ 1 c=3 from by unfold stepZ;rw[hd];(repeat' split) <;> first | rfl | omega | simp_all)
   clear hd
   go_enter func163,ntmps163
   go_wp2
   go_ret
   exact⟨by rw[uh HS];rfl,Below.refl _ _⟩
  ·skip
   have hd:digB c=false:=by simp[digB];omega
   have HS:=Hi (show stepZ 1 c = -1 from by unfold stepZ;rw[hd];(repeat' split) <;> first | rfl | omega | simp_all)
   clear hd
   go_enter func163,ntmps163
   go_wp2
   go_ret
   exact⟨by rw[uh HS];rfl,Below.refl _ _⟩
 ·skip
  have hd:digB c=false:=by simp[digB];omega
  have HS:=Hi (show stepZ 1 c = -1 from by unfold stepZ;rw[hd];(repeat' split) <;> first | rfl | omega | simp_all)
  clear hd
  go_enter func163,ntmps163
  go_wp2
  go_ret
  exact⟨by rw[uh HS];rfl,Below.refl _ _⟩
theorem znf(c:Int)(w:World):Calls prog 163 #[.int .i64 2,.int .i32 c] w fun e w'=>e = .returned (.int .i64 (stepZ 2 c))∧Below w.heap.size w w':=by
 by_cases c45:c=45
 ·subst c45
  go_enter func163,ntmps163
  go_wp2
  go_ret
  exact⟨rfl,Below.refl _ _⟩
 by_cases c43:c=43
 ·subst c43
  go_enter func163,ntmps163
  go_wp2
  go_ret
  exact⟨rfl,Below.refl _ _⟩
 by_cases c46:c=46
 ·subst c46
  go_enter func163,ntmps163
  go_wp2
  go_ret
  exact⟨rfl,Below.refl _ _⟩
 by_cases c48:c=48
 ·subst c48
  go_enter func163,ntmps163
  go_wp2
  go_ret
  exact⟨rfl,Below.refl _ _⟩
 by_cases c101:c=101
 ·subst c101
  go_enter func163,ntmps163
  go_wp2
  go_ret
  exact⟨rfl,Below.refl _ _⟩
 by_cases c69:c=69
 ·subst c69
  go_enter func163,ntmps163
  go_wp2
  go_ret
  exact⟨rfl,Below.refl _ _⟩
 have n45:(c==45)=false:=by simpa using c45
 have n43:(c==43)=false:=by simpa using c43
 have n46:(c==46)=false:=by simpa using c46
 have n48:(c==48)=false:=by simpa using c48
 have n101:(c==101)=false:=by simpa using c101
 have n69:(c==69)=false:=by simpa using c69
 by_cases d1:48≤c
 ·by_cases d2:c≤57
  ·skip
   have hd:digB c=true:=by simp[digB];omega
   have HS:=Hi (show stepZ 2 c = -1 from by unfold stepZ;rw[hd];(repeat' split) <;> first | rfl | omega | simp_all)
   clear hd
   go_enter func163,ntmps163
   go_wp2
   go_ret
   exact⟨by rw[uh HS];rfl,Below.refl _ _⟩
  ·skip
   have hd:digB c=false:=by simp[digB];omega
   have HS:=Hi (show stepZ 2 c = -1 from by unfold stepZ;rw[hd];(repeat' split) <;> first | rfl | omega | simp_all)
   clear hd
   go_enter func163,ntmps163
   go_wp2
   go_ret
   exact⟨by rw[uh HS];rfl,Below.refl _ _⟩
 ·skip
  have hd:digB c=false:=by simp[digB];omega
  have HS:=Hi (show stepZ 2 c = -1 from by unfold stepZ;rw[hd];(repeat' split) <;> first | rfl | omega | simp_all)
  clear hd
  go_enter func163,ntmps163
  go_wp2
  go_ret
  exact⟨by rw[uh HS];rfl,Below.refl _ _⟩
theorem zng(c:Int)(w:World):Calls prog 163 #[.int .i64 3,.int .i32 c] w fun e w'=>e = .returned (.int .i64 (stepZ 3 c))∧Below w.heap.size w w':=by
 by_cases c45:c=45
 ·subst c45
  go_enter func163,ntmps163
  go_wp2
  go_ret
  exact⟨rfl,Below.refl _ _⟩
 by_cases c43:c=43
 ·subst c43
  go_enter func163,ntmps163
  go_wp2
  go_ret
  exact⟨rfl,Below.refl _ _⟩
 by_cases c46:c=46
 ·subst c46
  go_enter func163,ntmps163
  go_wp2
  go_ret
  exact⟨rfl,Below.refl _ _⟩
 by_cases c48:c=48
 ·subst c48
  go_enter func163,ntmps163
  go_wp2
  go_ret
  exact⟨rfl,Below.refl _ _⟩
 by_cases c101:c=101
 ·subst c101
  go_enter func163,ntmps163
  go_wp2
  go_ret
  exact⟨rfl,Below.refl _ _⟩
 by_cases c69:c=69
 ·subst c69
  go_enter func163,ntmps163
  go_wp2
  go_ret
  exact⟨rfl,Below.refl _ _⟩
 have n45:(c==45)=false:=by simpa using c45
 have n43:(c==43)=false:=by simpa using c43
 have n46:(c==46)=false:=by simpa using c46
 have n48:(c==48)=false:=by simpa using c48
 have n101:(c==101)=false:=by simpa using c101
 have n69:(c==69)=false:=by simpa using c69
 by_cases d1:48≤c
 ·by_cases d2:c≤57
  ·skip
   have hd:digB c=true:=by simp[digB];omega
   have HS:=Hi (show stepZ 3 c=3 from by unfold stepZ;rw[hd];(repeat' split) <;> first | rfl | omega | simp_all)
   clear hd
   go_enter func163,ntmps163
   go_wp2
   go_ret
   exact⟨by rw[uh HS];rfl,Below.refl _ _⟩
  ·skip
   have hd:digB c=false:=by simp[digB];omega
   have HS:=Hi (show stepZ 3 c = -1 from by unfold stepZ;rw[hd];(repeat' split) <;> first | rfl | omega | simp_all)
   clear hd
   go_enter func163,ntmps163
   go_wp2
   go_ret
   exact⟨by rw[uh HS];rfl,Below.refl _ _⟩
 ·skip
  have hd:digB c=false:=by simp[digB];omega
  have HS:=Hi (show stepZ 3 c = -1 from by unfold stepZ;rw[hd];(repeat' split) <;> first | rfl | omega | simp_all)
  clear hd
  go_enter func163,ntmps163
  go_wp2
  go_ret
  exact⟨by rw[uh HS];rfl,Below.refl _ _⟩
theorem znh(c:Int)(w:World):Calls prog 163 #[.int .i64 4,.int .i32 c] w fun e w'=>e = .returned (.int .i64 (stepZ 4 c))∧Below w.heap.size w w':=by
 by_cases c45:c=45
 ·subst c45
  go_enter func163,ntmps163
  go_wp2
  go_ret
  exact⟨rfl,Below.refl _ _⟩
 by_cases c43:c=43
 ·subst c43
  go_enter func163,ntmps163
  go_wp2
  go_ret
  exact⟨rfl,Below.refl _ _⟩
 by_cases c46:c=46
 ·subst c46
  go_enter func163,ntmps163
  go_wp2
  go_ret
  exact⟨rfl,Below.refl _ _⟩
 by_cases c48:c=48
 ·subst c48
  go_enter func163,ntmps163
  go_wp2
  go_ret
  exact⟨rfl,Below.refl _ _⟩
 by_cases c101:c=101
 ·subst c101
  go_enter func163,ntmps163
  go_wp2
  go_ret
  exact⟨rfl,Below.refl _ _⟩
 by_cases c69:c=69
 ·subst c69
  go_enter func163,ntmps163
  go_wp2
  go_ret
  exact⟨rfl,Below.refl _ _⟩
 have n45:(c==45)=false:=by simpa using c45
 have n43:(c==43)=false:=by simpa using c43
 have n46:(c==46)=false:=by simpa using c46
 have n48:(c==48)=false:=by simpa using c48
 have n101:(c==101)=false:=by simpa using c101
 have n69:(c==69)=false:=by simpa using c69
 by_cases d1:48≤c
 ·by_cases d2:c≤57
  ·skip
   have hd:digB c=true:=by simp[digB];omega
   have HS:=Hi (show stepZ 4 c=5 from by unfold stepZ;rw[hd];(repeat' split) <;> first | rfl | omega | simp_all)
   clear hd
   go_enter func163,ntmps163
   go_wp2
   go_ret
   exact⟨by rw[uh HS];rfl,Below.refl _ _⟩
  ·skip
   have hd:digB c=false:=by simp[digB];omega
   have HS:=Hi (show stepZ 4 c = -1 from by unfold stepZ;rw[hd];(repeat' split) <;> first | rfl | omega | simp_all)
   clear hd
   go_enter func163,ntmps163
   go_wp2
   go_ret
   exact⟨by rw[uh HS];rfl,Below.refl _ _⟩
 ·skip
  have hd:digB c=false:=by simp[digB];omega
  have HS:=Hi (show stepZ 4 c = -1 from by unfold stepZ;rw[hd];(repeat' split) <;> first | rfl | omega | simp_all)
  clear hd
  go_enter func163,ntmps163
  go_wp2
  go_ret
  exact⟨by rw[uh HS];rfl,Below.refl _ _⟩
theorem zni(c:Int)(w:World):Calls prog 163 #[.int .i64 5,.int .i32 c] w fun e w'=>e = .returned (.int .i64 (stepZ 5 c))∧Below w.heap.size w w':=by
 by_cases c45:c=45
 ·subst c45
  go_enter func163,ntmps163
  go_wp2
  go_ret
  exact⟨rfl,Below.refl _ _⟩
 by_cases c43:c=43
 ·subst c43
  go_enter func163,ntmps163
  go_wp2
  go_ret
  exact⟨rfl,Below.refl _ _⟩
 by_cases c46:c=46
 ·subst c46
  go_enter func163,ntmps163
  go_wp2
  go_ret
  exact⟨rfl,Below.refl _ _⟩
 by_cases c48:c=48
 ·subst c48
  go_enter func163,ntmps163
  go_wp2
  go_ret
  exact⟨rfl,Below.refl _ _⟩
 by_cases c101:c=101
 ·subst c101
  go_enter func163,ntmps163
  go_wp2
  go_ret
  exact⟨rfl,Below.refl _ _⟩
 by_cases c69:c=69
 ·subst c69
  go_enter func163,ntmps163
  go_wp2
  go_ret
  exact⟨rfl,Below.refl _ _⟩
 have n45:(c==45)=false:=by simpa using c45
 have n43:(c==43)=false:=by simpa using c43
 have n46:(c==46)=false:=by simpa using c46
 have n48:(c==48)=false:=by simpa using c48
 have n101:(c==101)=false:=by simpa using c101
 have n69:(c==69)=false:=by simpa using c69
 by_cases d1:48≤c
 ·by_cases d2:c≤57
  ·skip
   have hd:digB c=true:=by simp[digB];omega
   have HS:=Hi (show stepZ 5 c=5 from by unfold stepZ;rw[hd];(repeat' split) <;> first | rfl | omega | simp_all)
   clear hd
   go_enter func163,ntmps163
   go_wp2
   go_ret
   exact⟨by rw[uh HS];rfl,Below.refl _ _⟩
  ·skip
   have hd:digB c=false:=by simp[digB];omega
   have HS:=Hi (show stepZ 5 c = -1 from by unfold stepZ;rw[hd];(repeat' split) <;> first | rfl | omega | simp_all)
   clear hd
   go_enter func163,ntmps163
   go_wp2
   go_ret
   exact⟨by rw[uh HS];rfl,Below.refl _ _⟩
 ·skip
  have hd:digB c=false:=by simp[digB];omega
  have HS:=Hi (show stepZ 5 c = -1 from by unfold stepZ;rw[hd];(repeat' split) <;> first | rfl | omega | simp_all)
  clear hd
  go_enter func163,ntmps163
  go_wp2
  go_ret
  exact⟨by rw[uh HS];rfl,Below.refl _ _⟩
theorem znj(c:Int)(w:World):Calls prog 163 #[.int .i64 6,.int .i32 c] w fun e w'=>e = .returned (.int .i64 (stepZ 6 c))∧Below w.heap.size w w':=by
 by_cases c45:c=45
 ·subst c45
  go_enter func163,ntmps163
  go_wp2
  go_ret
  exact⟨rfl,Below.refl _ _⟩
 by_cases c43:c=43
 ·subst c43
  go_enter func163,ntmps163
  go_wp2
  go_ret
  exact⟨rfl,Below.refl _ _⟩
 by_cases c46:c=46
 ·subst c46
  go_enter func163,ntmps163
  go_wp2
  go_ret
  exact⟨rfl,Below.refl _ _⟩
 by_cases c48:c=48
 ·subst c48
  go_enter func163,ntmps163
  go_wp2
  go_ret
  exact⟨rfl,Below.refl _ _⟩
 by_cases c101:c=101
 ·subst c101
  go_enter func163,ntmps163
  go_wp2
  go_ret
  exact⟨rfl,Below.refl _ _⟩
 by_cases c69:c=69
 ·subst c69
  go_enter func163,ntmps163
  go_wp2
  go_ret
  exact⟨rfl,Below.refl _ _⟩
 have n45:(c==45)=false:=by simpa using c45
 have n43:(c==43)=false:=by simpa using c43
 have n46:(c==46)=false:=by simpa using c46
 have n48:(c==48)=false:=by simpa using c48
 have n101:(c==101)=false:=by simpa using c101
 have n69:(c==69)=false:=by simpa using c69
 by_cases d1:48≤c
 ·by_cases d2:c≤57
  ·skip
   have hd:digB c=true:=by simp[digB];omega
   have HS:=Hi (show stepZ 6 c=8 from by unfold stepZ;rw[hd];(repeat' split) <;> first | rfl | omega | simp_all)
   clear hd
   go_enter func163,ntmps163
   go_wp2
   go_ret
   exact⟨by rw[uh HS];rfl,Below.refl _ _⟩
  ·skip
   have hd:digB c=false:=by simp[digB];omega
   have HS:=Hi (show stepZ 6 c = -1 from by unfold stepZ;rw[hd];(repeat' split) <;> first | rfl | omega | simp_all)
   clear hd
   go_enter func163,ntmps163
   go_wp2
   go_ret
   exact⟨by rw[uh HS];rfl,Below.refl _ _⟩
 ·skip
  have hd:digB c=false:=by simp[digB];omega
  have HS:=Hi (show stepZ 6 c = -1 from by unfold stepZ;rw[hd];(repeat' split) <;> first | rfl | omega | simp_all)
  clear hd
  go_enter func163,ntmps163
  go_wp2
  go_ret
  exact⟨by rw[uh HS];rfl,Below.refl _ _⟩
theorem znk(c:Int)(w:World):Calls prog 163 #[.int .i64 7,.int .i32 c] w fun e w'=>e = .returned (.int .i64 (stepZ 7 c))∧Below w.heap.size w w':=by
 by_cases c45:c=45
 ·subst c45
  go_enter func163,ntmps163
  go_wp2
  go_ret
  exact⟨rfl,Below.refl _ _⟩
 by_cases c43:c=43
 ·subst c43
  go_enter func163,ntmps163
  go_wp2
  go_ret
  exact⟨rfl,Below.refl _ _⟩
 by_cases c46:c=46
 ·subst c46
  go_enter func163,ntmps163
  go_wp2
  go_ret
  exact⟨rfl,Below.refl _ _⟩
 by_cases c48:c=48
 ·subst c48
  go_enter func163,ntmps163
  go_wp2
  go_ret
  exact⟨rfl,Below.refl _ _⟩
 by_cases c101:c=101
 ·subst c101
  go_enter func163,ntmps163
  go_wp2
  go_ret
  exact⟨rfl,Below.refl _ _⟩
 by_cases c69:c=69
 ·subst c69
  go_enter func163,ntmps163
  go_wp2
  go_ret
  exact⟨rfl,Below.refl _ _⟩
 have n45:(c==45)=false:=by simpa using c45
 have n43:(c==43)=false:=by simpa using c43
 have n46:(c==46)=false:=by simpa using c46
 have n48:(c==48)=false:=by simpa using c48
 have n101:(c==101)=false:=by simpa using c101
 have n69:(c==69)=false:=by simpa using c69
 by_cases d1:48≤c
 ·by_cases d2:c≤57
  ·skip
   have hd:digB c=true:=by simp[digB];omega
   have HS:=Hi (show stepZ 7 c=8 from by unfold stepZ;rw[hd];(repeat' split) <;> first | rfl | omega | simp_all)
   clear hd
   go_enter func163,ntmps163
   go_wp2
   go_ret
   exact⟨by rw[uh HS];rfl,Below.refl _ _⟩
  ·skip
   have hd:digB c=false:=by simp[digB];omega
   have HS:=Hi (show stepZ 7 c = -1 from by unfold stepZ;rw[hd];(repeat' split) <;> first | rfl | omega | simp_all)
   clear hd
   go_enter func163,ntmps163
   go_wp2
   go_ret
   exact⟨by rw[uh HS];rfl,Below.refl _ _⟩
 ·skip
  have hd:digB c=false:=by simp[digB];omega
  have HS:=Hi (show stepZ 7 c = -1 from by unfold stepZ;rw[hd];(repeat' split) <;> first | rfl | omega | simp_all)
  clear hd
  go_enter func163,ntmps163
  go_wp2
  go_ret
  exact⟨by rw[uh HS];rfl,Below.refl _ _⟩
theorem znl(c:Int)(w:World):Calls prog 163 #[.int .i64 8,.int .i32 c] w fun e w'=>e = .returned (.int .i64 (stepZ 8 c))∧Below w.heap.size w w':=by
 by_cases c45:c=45
 ·subst c45
  go_enter func163,ntmps163
  go_wp2
  go_ret
  exact⟨rfl,Below.refl _ _⟩
 by_cases c43:c=43
 ·subst c43
  go_enter func163,ntmps163
  go_wp2
  go_ret
  exact⟨rfl,Below.refl _ _⟩
 by_cases c46:c=46
 ·subst c46
  go_enter func163,ntmps163
  go_wp2
  go_ret
  exact⟨rfl,Below.refl _ _⟩
 by_cases c48:c=48
 ·subst c48
  go_enter func163,ntmps163
  go_wp2
  go_ret
  exact⟨rfl,Below.refl _ _⟩
 by_cases c101:c=101
 ·subst c101
  go_enter func163,ntmps163
  go_wp2
  go_ret
  exact⟨rfl,Below.refl _ _⟩
 by_cases c69:c=69
 ·subst c69
  go_enter func163,ntmps163
  go_wp2
  go_ret
  exact⟨rfl,Below.refl _ _⟩
 have n45:(c==45)=false:=by simpa using c45
 have n43:(c==43)=false:=by simpa using c43
 have n46:(c==46)=false:=by simpa using c46
 have n48:(c==48)=false:=by simpa using c48
 have n101:(c==101)=false:=by simpa using c101
 have n69:(c==69)=false:=by simpa using c69
 by_cases d1:48≤c
 ·by_cases d2:c≤57
  ·skip
   have hd:digB c=true:=by simp[digB];omega
   have HS:=Hi (show stepZ 8 c=8 from by unfold stepZ;rw[hd];(repeat' split) <;> first | rfl | omega | simp_all)
   clear hd
   go_enter func163,ntmps163
   go_wp2
   go_ret
   exact⟨by rw[uh HS];rfl,Below.refl _ _⟩
  ·skip
   have hd:digB c=false:=by simp[digB];omega
   have HS:=Hi (show stepZ 8 c = -1 from by unfold stepZ;rw[hd];(repeat' split) <;> first | rfl | omega | simp_all)
   clear hd
   go_enter func163,ntmps163
   go_wp2
   go_ret
   exact⟨by rw[uh HS];rfl,Below.refl _ _⟩
 ·skip
  have hd:digB c=false:=by simp[digB];omega
  have HS:=Hi (show stepZ 8 c = -1 from by unfold stepZ;rw[hd];(repeat' split) <;> first | rfl | omega | simp_all)
  clear hd
  go_enter func163,ntmps163
  go_wp2
  go_ret
  exact⟨by rw[uh HS];rfl,Below.refl _ _⟩
theorem zjX(st c:Int)(h0:0≤st)(h8:st≤8)(w:World):Calls prog 163 #[.int .i64 st,.int .i32 c] w fun e w'=>e = .returned (.int .i64 (stepZ st c))∧Below w.heap.size w w':=by
 have h:st=0∨st=1∨st=2∨st=3∨st=4∨st=5∨st=6∨st=7∨st=8:=by omega
 rcases h with rfl | rfl | rfl | rfl | rfl | rfl | rfl | rfl | rfl
 ·exact znd c w
 ·exact zne c w
 ·exact znf c w
 ·exact zng c w
 ·exact znh c w
 ·exact zni c w
 ·exact znj c w
 ·exact znk c w
 ·exact znl c w
theorem zmx(w:World):Calls prog 164 #[.int .i64 0] w fun e w'=>e = .returned (.int .i64 (formZ 0))∧Below w.heap.size w w':=by
 go_enter func164,ntmps164
 go_wp2
 go_ret
 exact⟨rfl,Below.refl _ _⟩
theorem zmy(w:World):Calls prog 164 #[.int .i64 1] w fun e w'=>e = .returned (.int .i64 (formZ 1))∧Below w.heap.size w w':=by
 go_enter func164,ntmps164
 go_wp2
 go_ret
 exact⟨rfl,Below.refl _ _⟩
theorem zmz(w:World):Calls prog 164 #[.int .i64 2] w fun e w'=>e = .returned (.int .i64 (formZ 2))∧Below w.heap.size w w':=by
 go_enter func164,ntmps164
 go_wp2
 go_ret
 exact⟨rfl,Below.refl _ _⟩
theorem zmA(w:World):Calls prog 164 #[.int .i64 3] w fun e w'=>e = .returned (.int .i64 (formZ 3))∧Below w.heap.size w w':=by
 go_enter func164,ntmps164
 go_wp2
 go_ret
 exact⟨rfl,Below.refl _ _⟩
theorem zmB(w:World):Calls prog 164 #[.int .i64 4] w fun e w'=>e = .returned (.int .i64 (formZ 4))∧Below w.heap.size w w':=by
 go_enter func164,ntmps164
 go_wp2
 go_ret
 exact⟨rfl,Below.refl _ _⟩
theorem zmC(w:World):Calls prog 164 #[.int .i64 5] w fun e w'=>e = .returned (.int .i64 (formZ 5))∧Below w.heap.size w w':=by
 go_enter func164,ntmps164
 go_wp2
 go_ret
 exact⟨rfl,Below.refl _ _⟩
theorem zmD(w:World):Calls prog 164 #[.int .i64 6] w fun e w'=>e = .returned (.int .i64 (formZ 6))∧Below w.heap.size w w':=by
 go_enter func164,ntmps164
 go_wp2
 go_ret
 exact⟨rfl,Below.refl _ _⟩
theorem zmE(w:World):Calls prog 164 #[.int .i64 7] w fun e w'=>e = .returned (.int .i64 (formZ 7))∧Below w.heap.size w w':=by
 go_enter func164,ntmps164
 go_wp2
 go_ret
 exact⟨rfl,Below.refl _ _⟩
theorem zmF(w:World):Calls prog 164 #[.int .i64 8] w fun e w'=>e = .returned (.int .i64 (formZ 8))∧Below w.heap.size w w':=by
 go_enter func164,ntmps164
 go_wp2
 go_ret
 exact⟨rfl,Below.refl _ _⟩
theorem zja(st:Int)(h0:0≤st)(h8:st≤8)(w:World):Calls prog 164 #[.int .i64 st] w fun e w'=>e = .returned (.int .i64 (formZ st))∧Below w.heap.size w w':=by
 have h:st=0∨st=1∨st=2∨st=3∨st=4∨st=5∨st=6∨st=7∨st=8:=by omega
 rcases h with rfl | rfl | rfl | rfl | rfl | rfl | rfl | rfl | rfl
 ·exact zmx w
 ·exact zmy w
 ·exact zmz w
 ·exact zmA w
 ·exact zmB w
 ·exact zmC w
 ·exact zmD w
 ·exact zmE w
 ·exact zmF w
theorem zjW(st c:Int):-1≤stepZ st c∧stepZ st c≤8:=by
 unfold stepZ
 repeat' split
 all_goals omega
theorem zi9(st:Int):0≤formZ st∧formZ st≤2:=by
 unfold formZ
 repeat' split
 all_goals omega
theorem zjJ(a:Option Addr)(n c:Nat)(i:Int)(w:World)(hi:i<0∨(n:Int)<i) :
  Calls prog 144 #[.slice a n c,.int .i64 i] w fun e w'=>e = .returned (.tuple #[.int .i64 0,.int .i64 0,.int .i64 0])∧Below w.heap.size w w':=by
 go_enter func144,ntmps144
 by_cases h0:i<0
 ·go_wp2
  go_ret3
  exact⟨rfl,Below.refl _ _⟩
 ·have h1:(n:Int)<i:=by omega
  go_wp2
  go_ret3
  exact⟨rfl,Below.refl _ _⟩
theorem zeN(a:Option Addr)(n c:Nat)(l:List Int)(p:Nat)(w:World)(h:Row .i32 w a n c l)(hn:n≤4611686018427387900)(hp:p≤n) :
  Calls prog 144 #[.slice a n c,.int .i64 (p:Int)] w fun e w'=>e = .returned (.tuple #[.int .i64 ((pfx l p).1:Nat),.int .i64 ((pfx l p).2.1:Nat),.int .i64 (pfx l p).2.2])∧Below w.heap.size w w':=by
 have h0:¬(p:Int)<0:=by omega
 have h1:¬(n:Int)<(p:Int):=by omega
 go_enter func144,ntmps144
 go_wp2
 go_loopw [7,8,9,10] (fun e f st k wr=>∃ (E K:Nat) (F S:Int),K≤n∧e = .int .i64 E∧f = .int .i64 F∧st = .int .i64 S∧k = .int .i64 K∧0≤S∧S≤8∧Hid (run l 0 p 0 p=run l S E F K)∧Below w.heap.size w wr) (fun _ _ _ k _=>n-(intOf k).toNat)
 case atStart=>exact⟨p,p,0,0,hp,rfl,rfl,rfl,rfl,by omega,by omega,Hi rfl,Below.refl _ _⟩
 case round =>
  obtain⟨E,K,F,S,hK,rfl,rfl,rfl,rfl,s0,s8,HR,hbel⟩:=hrel;have HL:=Hi h.len;have HPF:=Hi (zh4 l p (by rw[h.len];exact hp))
  by_cases hlt:K<n
  ·rcases h.at_ with h0 | ⟨b,off,rfl,hbw,hcell⟩
   ·omega
   have c1:=(hbel.cell (p:=⟨b,off+K,none⟩) hbw).trans (hcell K hlt);have HY:=Hi (show l.getD K 0=l.getD K 0 from rfl)
   have ki:(K:Int)<(n:Int):=by omega
   obtain⟨y,hy⟩:∃ y,y=l.getD K 0:=⟨_,rfl⟩;rw[←hy] at c1;have Hy:=Hi hy;clear hy hcell HY;have hle:=zjW S y
   go_wp2_with fail
   refine (zjX S y s0 s8 wr).mono ?_
   rintro e w1 ⟨rfl,b1⟩;have b1:=hbel.trans (b1.mono hbel.size);obtain⟨T,hT⟩:∃ T,T=stepZ S y:=⟨_,rfl⟩;rw[←hT] at hle ⊢;have HT:=Hi (show stepZ S (l.getD K 0)=T from by rw[hT,uh Hy])
   clear hT
   by_cases ht:T<0
   ·have HB:=Hi (show pfx l p=(E,K,F) from by rw[←uh HPF,uh HR];exact zbN (by rw[uh HL];exact hlt) (by rw[uh HT];exact ht) _ _)
    go_wp2
    go_ret3
    exact⟨by rw[uh HB];rfl,b1⟩
   ·have hfl:=zi9 T
    go_wp2_with fail
    refine (zja T (by omega) hle.2 w1).mono ?_
    rintro e w2 ⟨rfl,b2⟩;have b2:=b1.trans (b2.mono b1.size)
    by_cases hf:formZ T=0
    ·have HG:=Hi (show run l S E F K=run l T E F (K+1) from zdF (by rw[uh HL];exact hlt) (uh HT) (by omega) hf _ _)
     have hfi:(formZ T != 0)=false:=by simp[hf]
     clear hf
     go_wp2
     go_roundw
     case rel=>exact⟨E,K+1,F,T,by omega,rfl,rfl,rfl,by go_num,by omega,hle.2,Hi (by rw[uh HR,uh HG]),b2⟩
     case measure=>simp[intOf];omega
    ·have HG:=Hi (show run l S E F K=run l T (K+1) (formZ T) (K+1) from za5 (by rw[uh HL];exact hlt) (uh HT) (by omega) hf _ _)
     have hfi:(formZ T != 0)=true:=by simpa using hf
     clear hf
     go_wp2
     go_roundw
     case rel=>exact⟨K+1,K+1,formZ T,T,by omega,by go_num,rfl,rfl,by go_num,by omega,hle.2,Hi (by rw[uh HR,uh HG]),b2⟩
     case measure=>simp[intOf];omega
  ·have ki:¬(K:Int)<(n:Int):=by omega
   have HB:=Hi (show pfx l p=(E,n,F) from by rw[←uh HPF,uh HR,zbO (by rw[uh HL];exact hlt),uh HL])
   go_wp2
   go_ret3
   exact⟨by rw[uh HB];rfl,hbel⟩
end mem
namespace lx
open ints (Hi uh)
open mem
theorem zjz(l:List Int)(p:Nat):(pfx l p).2.2=0∧(pfx l p).1=p∨(pfx l p).2.2=1∧p<(pfx l p).1∨(pfx l p).2.2=2∧p<(pfx l p).1:=by
 have h:=zh3 l p;unfold pfx at h ⊢
 split
 ·exact .inl ⟨rfl,rfl⟩
 ·rename_i hw
  rw[if_neg hw] at h;simp only at h ⊢
  split
  ·rename_i hg
   rw[if_pos hg] at h;exact .inr (.inr ⟨rfl,by omega⟩)
  ·rename_i hg
   rw[if_neg hg] at h;exact .inr (.inl ⟨rfl,by omega⟩)
theorem zgy(a:Option Addr)(n c:Nat)(l:List Int)(cl:Bool)(i:Nat)(w:World)(h:Row .i32 w a n c (lkZ l cl))(hn:n≤1099511627778)(hi:i≤l.length) :
  Calls prog 131 #[.slice a n c,.int .i64 (i:Int)] w fun e w'=>e = .returned (.tuple #[.int .i64 ((num l i).2:Nat),.int .i64 (num l i).1])∧Below w.heap.size w w':=by
 obtain⟨b,off,rfl,hbw,hln,_,hnc,hcell⟩:=zel h;have hP:=Hi (zeN _ n c (lkZ l cl) i w h (by omega) (by omega))
 rw[znK] at hP;have hpl:=mem.zfY l i hi;have hfo:=zjz l i;have hN:=Hi (show num l i=(if cAt l (mem.pfx l i).1=46∨nrB (cAt l (mem.pfx l i).1) then (1,i) else if (mem.pfx l i).2.2=1 then (4,(mem.pfx l i).1) else if (mem.pfx l i).2.2=2 then (5,(mem.pfx l i).1) else (1,i)) from rfl)
 obtain⟨N,hNe⟩:∃ N,N=num l i:=⟨_,rfl⟩;rw[←hNe] at hN ⊢;clear hNe;obtain⟨u,hu⟩:∃ u,u=(mem.pfx l i).2.1:=⟨_,rfl⟩;rw[←hu] at hP;obtain⟨t,ht⟩:∃ t,t=(mem.pfx l i).1:=⟨_,rfl⟩;obtain⟨f,hf⟩:∃ f,f=(mem.pfx l i).2.2:=⟨_,rfl⟩;rw[←ht,←hf] at hP hN hfo;have htl:t≤l.length:=by rw[ht];exact hpl.1
 clear hu ht hf hpl;have c0:=Hi (hcell t (by omega))
 have HR:=Hi (zdq nrB (by decide) (by decide) (by decide) zln l cl t)
 have H46:=Hi (zbh l cl t 46 (by decide))
 obtain⟨x,hx⟩:∃ x,x=zA l cl t:=⟨_,rfl⟩;rw[←hx] at c0 HR H46;have tn:(t:Int)<(n:Int):=by omega
 clear hx hcell htl;have B:=Hi (fun W=>zii x W)
 go_enter func131,ntmps131
 go_wp2_with fail
 refine (uh hP).mono ?_
 rintro e w1 ⟨rfl,b1⟩;have c1:=(b1.cell (p:=⟨b,off+t,none⟩) hbw).trans (uh c0);clear hP c0
 rcases hfo with ⟨f0,e0⟩ | hfo
 ·have hN2:=Hi (show N=(1,i) from by rw[uh hN,f0];simp)
  have et:((t:Int)==(i:Int))=true:=by simp;omega
  clear hN
  go_wp2_with fail
  go_ret2
  exact⟨by rw[uh hN2];rfl,b1⟩
 ·have hit:i<t:=by omega
  have et:((t:Int)==(i:Int))=false:=by simp;omega
  by_cases h46:x=46
  ·have hN2:=Hi (show N=(1,i) from by rw[uh hN,if_pos (.inl ((uh H46).1 h46))])
   subst h46;clear hN
   go_wp2_with fail
   go_ret2
   exact⟨by rw[uh hN2];rfl,b1⟩
  ·have e46:(x==46)=false:=by simpa using h46
   have H46n:=Hi (fun e=>h46 ((uh H46).2 e))
   clear h46
   cases hb:nrB x with
   | true =>
    have hN2:=Hi (show N=(1,i) from by rw[uh hN,if_pos (.inr (by rw[←uh HR];exact hb))])
    rw[hb] at B;clear hN hb
    go_wp2_with fail
    refine (uh B _).mono ?_
    rintro e w2 ⟨rfl,rfl⟩
    go_wp2_with fail
    go_ret2
    exact⟨by rw[uh hN2];rfl,b1⟩
   | false =>
    have hN1:=Hi (show N=(if f=1 then (4,t) else if f=2 then (5,t) else (1,i)) from by
     rw[uh hN,if_neg (fun e=>by rcases e with e | e;exact uh H46n e;rw[←uh HR,hb] at e;cases e)])
    rw[hb] at B;clear hN hb
    rcases hfo with ⟨f1,_⟩ | ⟨f1,_⟩
    ·subst f1
     go_wp2_with fail
     refine (uh B _).mono ?_
     rintro e w2 ⟨rfl,rfl⟩
     go_wp2_with fail
     go_ret2
     exact⟨by rw[uh hN1];rfl,b1⟩
    ·subst f1
     go_wp2_with fail
     refine (uh B _).mono ?_
     rintro e w2 ⟨rfl,rfl⟩
     go_wp2_with fail
     go_ret2
     exact⟨by rw[uh hN1];rfl,b1⟩
def enB3(l:List Int)(i:Nat):Option Nat→Nat
 | some j=>j+3
 | none=>i
def enQ1(l:List Int)(i:Nat):Option Nat→Nat
 | some j=>j+1
 | none=>i
theorem zkF(l:List Int)(cl:Bool)(i:Nat):th3 (lkZ l cl) i 34=tq l i:=znp l cl i 34 (by decide)
theorem zia(a:Option Addr)(n c:Nat)(l:List Int)(cl:Bool)(i:Nat)(w:World)(h:Row .i32 w a n c (lkZ l cl))(hn:n≤1099511627778)(hi:i+3≤l.length) :
  Calls prog 146 #[.slice a n c,.int .i64 (i:Int)] w fun e w'=>e = .returned (.int .i64 (enB3 l i (endB l (l.length+2) (i+3)):Nat))∧Below w.heap.size w w':=by
 have H3:=Hi (fun W (hb:Below w.heap.size w W) (k:Nat) (hk:k≤2199023255552)=>zej _ n c (lkZ l cl) k 34 W (h.below hb) hn hk)
 obtain⟨b,off,rfl,hbw,hln,_,hnc,hcell⟩:=zel h;have HC:=Hi hcell;obtain⟨E,hE⟩:∃ E,E=endB l (l.length+2) (i+3):=⟨_,rfl⟩;rw[←hE];have HE:=Hi hE.symm;obtain⟨N,hN⟩:∃ N,N=l.length:=⟨_,rfl⟩;rw[←hN] at hi hln HE;have HN:=Hi hN;clear hE hcell h hN
 go_enter func146,ntmps146
 go_wp2_with fail
 go_loopg [5] (N+1) (fun g vi wr=>∃ k f:Nat,k≤N∧N+1≤g+k∧N+2≤f+k∧vi = .int .i64 k∧Hid (endB l f k=E)∧Below w.heap.size w wr)
 case atStart=>exact⟨i+3,N+2,by omega,by omega,by omega,by go_num,HE,Below.refl _ _⟩
 case round =>
  obtain⟨k,f,hk,hg,hf,rfl,hik,hbel⟩:=hrel;have c0:=(hbel.cell (p:=⟨b,off+k,none⟩) hbw).trans (uh HC k (by omega))
  have ki:(k:Int)<(n:Int):=by omega
  have HZ:=Hi (zeZ l cl k (by rw[←uh HN];exact hk))
  have H92:=Hi (zbh l cl k 92 (by decide))
  have T0:=Hi (uh H3 _ hbel k (by omega))
  have T1:=Hi (uh H3 _ hbel (k+1) (by omega))
  rw[zkF] at T0 T1;obtain⟨f',rfl⟩:∃ f',f=f'+1:=⟨f-1,by omega⟩
  have hik2:=Hi (show (if tq l k=true then some k else if cAt l k=92∧tq l (k+1)=true then endB l f' (k+4) else if soB (cAt l k)=false then none else endB l f' (k+1))=E from uh hik)
  obtain⟨x,hx⟩:∃ x,x=zA l cl k:=⟨_,rfl⟩;rw[←hx] at c0 HZ H92;clear hx hik
  by_cases hneg:0≤x
  ·have hso:=(uh HZ).1 hneg
   have hlt:k<N:=by rw[uh HN];exact zaE rfl (fun e=>by rw[e] at hso;revert hso;decide)
   have Hso:=Hi hso;clear hso
   by_cases h92:x=92
   ·have hc92:=Hi ((uh H92).1 h92)
    have htf:tq l k=false:=by
     unfold tq;exact decide_eq_false (fun e=>by have:=e.1;rw[uh hc92] at this;omega)
    rw[htf] at T0 hik2
    cases ht:tq l (k+1) with
    | true =>
     have hl3:k+4≤N:=by rw[uh HN];have:=zci l (k+1) ht;omega
     rw[ht] at T1
     have hik3:=Hi (show endB l f' (k+4)=E from by
      have e:=uh hik2;rw[if_neg (by decide),if_pos ⟨uh hc92,ht⟩] at e
      exact e)
     subst h92;clear hik2 ht htf
     go_wp2_with fail
     rw[show ((k:Int)+1)=((k+1:Nat):Int) by omega]
     refine (uh T1).mono ?_
     rintro e w2 ⟨rfl,rfl⟩
     go_wp2_with fail
     go_roundg (gk-1)
     case rel=>exact⟨k+4,f',by omega,by omega,by omega,by go_num,hik3,hbel⟩
     case measure=>omega
    | false =>
     rw[ht] at T1
     have hik3:=Hi (show endB l f' (k+1)=E from by
      have e:=uh hik2;rw[if_neg (by decide),if_neg (fun e=>by rw[ht] at e;cases e.2),if_neg (by rw[uh Hso];decide)] at e
      exact e)
     subst h92;clear hik2 ht htf
     go_wp2_with fail
     rw[show ((k:Int)+1)=((k+1:Nat):Int) by omega]
     refine (uh T1).mono ?_
     rintro e w2 ⟨rfl,rfl⟩
     go_wp2_with fail
     refine (uh T0).mono ?_
     rintro e w2 ⟨rfl,rfl⟩
     go_wp2_with fail
     go_roundg (gk-1)
     case rel=>exact⟨k+1,f',by omega,by omega,by omega,by go_num,hik3,hbel⟩
     case measure=>omega
   ·have e92:(x==92)=false:=by simpa using h92
    have Hn92:=Hi (fun e=>h92 ((uh H92).2 e))
    clear h92 T1
    cases ht:tq l k with
    | true =>
     rw[ht] at T0
     have hik3:=Hi (show some k=E from by
      have e:=uh hik2;rw[if_pos ht] at e
      exact e)
     clear hik2 ht
     go_wp2_with fail
     refine (uh T0).mono ?_
     rintro e w2 ⟨rfl,rfl⟩
     go_wp2_with fail
     go_ret
     exact⟨by rw[←uh hik3];first | rfl | (unfold enB3;go_num),hbel⟩
    | false =>
     rw[ht] at T0
     have hik3:=Hi (show endB l f' (k+1)=E from by
      have e:=uh hik2;rw[if_neg (by rw[ht];decide),if_neg (fun e=>uh Hn92 e.1),if_neg (by rw[uh Hso];decide)] at e
      exact e)
     clear hik2 ht
     go_wp2_with fail
     refine (uh T0).mono ?_
     rintro e w2 ⟨rfl,rfl⟩
     go_wp2_with fail
     go_roundg (gk-1)
     case rel=>exact⟨k+1,f',by omega,by omega,by omega,by go_num,hik3,hbel⟩
     case measure=>omega
  ·have hso:soB (cAt l k)=false:=by
    cases e:soB (cAt l k) with
    | false=>rfl
    | true=>exact absurd ((uh HZ).2 e) hneg
   have hik3:=Hi (show none=E from by
    have e:=uh hik2;have h34:cAt l k≠34:=fun e=>by rw[e] at hso;revert hso;decide
    have h92:cAt l k≠92:=fun e=>by rw[e] at hso;revert hso;decide
    rw[if_neg (fun e=>by unfold tq at e;exact h34 (of_decide_eq_true e).1),if_neg (fun e=>h92 e.1),if_pos hso] at e
    exact e)
   clear hik2 hso T0 T1
   go_wp2_with fail
   go_ret
   exact⟨by rw[←uh hik3];rfl,hbel⟩
theorem zgM(a:Option Addr)(n c:Nat)(l:List Int)(cl:Bool)(i:Nat)(w:World)(h:Row .i32 w a n c (lkZ l cl))(hn:n≤1099511627778)(hi:i+1≤l.length) :
  Calls prog 148 #[.slice a n c,.int .i64 (i:Int)] w fun e w'=>e = .returned (.int .i64 (enQ1 l i (endQ l (l.length+2) (i+1)):Nat))∧Below w.heap.size w w':=by
 obtain⟨b,off,rfl,hbw,hln,_,hnc,hcell⟩:=zel h;have HC:=Hi hcell;obtain⟨E,hE⟩:∃ E,E=endQ l (l.length+2) (i+1):=⟨_,rfl⟩;rw[←hE];have HE:=Hi hE.symm;obtain⟨N,hN⟩:∃ N,N=l.length:=⟨_,rfl⟩;rw[←hN] at hi hln HE;have HN:=Hi hN;clear hE hcell h hN
 go_enter func148,ntmps148
 go_wp2_with fail
 go_loopg [5] (N+1) (fun g vi wr=>∃ k f:Nat,k≤N∧N+1≤g+k∧N+2≤f+k∧vi = .int .i64 k∧Hid (endQ l f k=E)∧Below w.heap.size w wr)
 case atStart=>exact⟨i+1,N+2,by omega,by omega,by omega,by go_num,HE,Below.refl _ _⟩
 case round =>
  obtain⟨k,f,hk,hg,hf,rfl,hik,hbel⟩:=hrel;have c0:=(hbel.cell (p:=⟨b,off+k,none⟩) hbw).trans (uh HC k (by omega))
  have ki:(k:Int)<(n:Int):=by omega
  have HZ:=Hi (zeZ l cl k (by rw[←uh HN];exact hk))
  have H92:=Hi (zbh l cl k 92 (by decide))
  have H34:=Hi (zbh l cl k 34 (by decide))
  have H10:=Hi (zbh l cl k 10 (by decide))
  have H13:=Hi (zbh l cl k 13 (by decide))
  obtain⟨f',rfl⟩:∃ f',f=f'+1:=⟨f-1,by omega⟩
  have hik2:=Hi (show (if cAt l k=34 then some k else if cAt l k=92 then (if cAt l (k+1)=10∨cAt l (k+1)=13∨soB (cAt l (k+1))=false then none else endQ l f' (k+2)) else if cAt l k=10∨cAt l k=13∨soB (cAt l k)=false then none else endQ l f' (k+1))=E from uh hik)
  obtain⟨x,hx⟩:∃ x,x=zA l cl k:=⟨_,rfl⟩;rw[←hx] at c0 HZ H92 H34 H10 H13;clear hx hik
  by_cases hneg:0≤x
  ·have hso:=(uh HZ).1 hneg
   have hlt:k<N:=by rw[uh HN];exact zaE rfl (fun e=>by rw[e] at hso;revert hso;decide)
   have Hso:=Hi hso;clear hso
   by_cases h10:x=10
   ·have hik3:=Hi (show none=E from by
     have e:=uh hik2;have e10:=(uh H10).1 h10;rw[e10,if_neg (by decide),if_neg (by decide),if_pos (.inl rfl)] at e
     exact e)
    subst h10;clear hik2
    go_wp2_with fail
    go_ret
    exact⟨by rw[←uh hik3];rfl,hbel⟩
   have e10:(x != 10)=true:=by simpa using h10
   by_cases h13:x=13
   ·have hik3:=Hi (show none=E from by
     have e:=uh hik2;have e13:=(uh H13).1 h13;rw[e13,if_neg (by decide),if_neg (by decide),if_pos (.inr (.inl rfl))] at e
     exact e)
    subst h13;clear hik2
    go_wp2_with fail
    go_ret
    exact⟨by rw[←uh hik3];rfl,hbel⟩
   have e13:(x != 13)=true:=by simpa using h13
   by_cases h34:x=34
   ·have hik3:=Hi (show some k=E from by
     have e:=uh hik2;rw[if_pos ((uh H34).1 h34)] at e
     exact e)
    subst h34;clear hik2 h10 h13
    go_wp2_with fail
    go_ret
    exact⟨by rw[←uh hik3];first | rfl | (unfold enQ1;go_num),hbel⟩
   have e34:(x==34)=false:=by simpa using h34
   by_cases h92:x=92
   ·have c1:=(hbel.cell (p:=⟨b,off+(k+1),none⟩) hbw).trans (uh HC (k+1) (by omega))
    have k1:(k:Int)+1<(n:Int):=by omega
    have GZ:=Hi (zeZ l cl (k+1) (by rw[←uh HN];omega))
    have G10:=Hi (zbh l cl (k+1) 10 (by decide))
    have G13:=Hi (zbh l cl (k+1) 13 (by decide))
    obtain⟨y,hy⟩:∃ y,y=zA l cl (k+1):=⟨_,rfl⟩;rw[←hy] at c1 GZ G10 G13
    have hik3:=Hi (show (if cAt l (k+1)=10∨cAt l (k+1)=13∨soB (cAt l (k+1))=false then none else endQ l f' (k+2))=E from by
     have e:=uh hik2;rw[if_neg (fun e=>h34 ((uh H34).2 e)),if_pos ((uh H92).1 h92)] at e
     exact e)
    subst h92;clear hy hik2 h10 h13 h34
    by_cases gneg:y<0
    ·have hik4:=Hi (show none=E from by
      have e:=uh hik3
      have hs:soB (cAt l (k+1))=false:=by
       cases e:soB (cAt l (k+1)) with
       | false=>rfl
       | true=>have:=(uh GZ).2 e;omega
      rw[if_pos (.inr (.inr hs))] at e
      exact e)
     clear hik3
     go_wp2_with fail
     go_ret
     exact⟨by rw[←uh hik4];rfl,hbel⟩
    ·by_cases g10:y=10
     ·have hik4:=Hi (show none=E from by
       have e:=uh hik3;rw[if_pos (.inl ((uh G10).1 g10))] at e
       exact e)
      subst g10;clear hik3
      go_wp2_with fail
      go_ret
      exact⟨by rw[←uh hik4];rfl,hbel⟩
     ·by_cases g13:y=13
      ·have hik4:=Hi (show none=E from by
        have e:=uh hik3;rw[if_pos (.inr (.inl ((uh G13).1 g13)))] at e
        exact e)
       subst g13;clear hik3
       go_wp2_with fail
       go_ret
       exact⟨by rw[←uh hik4];rfl,hbel⟩
      ·have f10:(y==10)=false:=by simpa using g10
       have f13:(y==13)=false:=by simpa using g13
       have hs1:=(uh GZ).1 (by omega)
       have hlt2:k+1<N:=by rw[uh HN];exact zaE rfl (fun e=>by rw[e] at hs1;revert hs1;decide)
       have hik4:=Hi (show endQ l f' (k+2)=E from by
        have e:=uh hik3;rw[if_neg (fun e=>by rcases e with e | e | e;exact g10 ((uh G10).2 e);exact g13 ((uh G13).2 e);rw[hs1] at e;cases e)] at e
        exact e)
       clear hik3 g10 g13 hs1
       go_wp2_with fail
       go_roundg (gk-1)
       case rel=>exact⟨k+2,f',by omega,by omega,by omega,by go_num,hik4,hbel⟩
       case measure=>omega
   ·have e92:(x==92)=false:=by simpa using h92
    have hik3:=Hi (show endQ l f' (k+1)=E from by
     have e:=uh hik2;rw[if_neg (fun e=>h34 ((uh H34).2 e)),if_neg (fun e=>h92 ((uh H92).2 e)),if_neg (fun e=>by rcases e with e | e | e;exact h10 ((uh H10).2 e);exact h13 ((uh H13).2 e);rw[uh Hso] at e;cases e)] at e
     exact e)
    clear hik2 h10 h13 h34 h92
    go_wp2_with fail
    go_roundg (gk-1)
    case rel=>exact⟨k+1,f',by omega,by omega,by omega,by go_num,hik3,hbel⟩
    case measure=>omega
  ·have hso:soB (cAt l k)=false:=by
    cases e:soB (cAt l k) with
    | false=>rfl
    | true=>exact absurd ((uh HZ).2 e) hneg
   have hik3:=Hi (show none=E from by
    have e:=uh hik2;have h34:cAt l k≠34:=fun e=>by rw[e] at hso;revert hso;decide
    have h92:cAt l k≠92:=fun e=>by rw[e] at hso;revert hso;decide
    rw[if_neg h34,if_neg h92,if_pos (.inr (.inr hso))] at e
    exact e)
   clear hik2 hso
   go_wp2_with fail
   go_ret
   exact⟨by rw[←uh hik3];rfl,hbel⟩
end lx
namespace ints
theorem zif(a b:Int)(w:World)(h1:55296≤a)(h2:a≤56319)(h3:56320≤b)(h4:b≤57343) :
  Calls prog 184 #[.int .i32 a,.int .i32 b] w fun e w'=>e = .returned (.tuple #[.int .i32 (65536+(a-55296) * 1024+(b-56320)),.bool true])∧w'=w:=by
 go_enter func184,ntmps184
 go_wp2
 go_ret2
 exact⟨rfl,rfl⟩
theorem zjM(a b:Int)(w:World)(h:¬(55296≤a∧a≤56319∧56320≤b∧b≤57343)) :
  Calls prog 184 #[.int .i32 a,.int .i32 b] w fun e w'=>e = .returned (.tuple #[.int .i32 0,.bool false])∧w'=w:=by
 by_cases h1:a<55296
 ·go_enter func184,ntmps184
  go_wp2
  go_ret2
  exact⟨rfl,rfl⟩
 by_cases h2:56319<a
 ·go_enter func184,ntmps184
  go_wp2
  go_ret2
  exact⟨rfl,rfl⟩
 by_cases h3:b<56320
 ·go_enter func184,ntmps184
  go_wp2
  go_ret2
  exact⟨rfl,rfl⟩
 have h4:57343<b:=by omega
 go_enter func184,ntmps184
 go_wp2
 go_ret2
 exact⟨rfl,rfl⟩
end ints
namespace mem
open ints (Hi uh)
theorem zea(c:Int)(w:World)(h:scP c) :
  Calls prog 126 #[.int .i32 c] w fun e w'=>e = .returned (.bool true)∧w'=w:=by
 rcases h with ⟨h1,h2⟩ | ⟨h1,h2⟩
 ·have a1:¬55296≤c:=by omega
  have a2:c≤1114111:=by omega
  go_enter func126,ntmps126
  go_wp2
  go_ret
  exact⟨rfl,rfl⟩
 ·have a1:55296≤c:=by omega
  have a2:¬c≤57343:=by omega
  have a3:0≤c:=by omega
  go_enter func126,ntmps126
  go_wp2
  go_ret
  exact⟨rfl,rfl⟩
theorem zm8(c:Int)(w:World)(h:¬scP c) :
  Calls prog 126 #[.int .i32 c] w fun e w'=>e = .returned (.bool false)∧w'=w:=by
 unfold scP at h
 by_cases h1:c<0
 ·have a1:¬55296≤c:=by omega
  have a2:¬0≤c:=by omega
  go_enter func126,ntmps126
  go_wp2
  go_ret
  exact⟨rfl,rfl⟩
 by_cases h2:c≤57343
 ·have a1:55296≤c:=by omega
  go_enter func126,ntmps126
  go_wp2
  go_ret
  exact⟨rfl,rfl⟩
 have a1:55296≤c:=by omega
 have a2:0≤c:=by omega
 have a3:¬c≤1114111:=by omega
 go_enter func126,ntmps126
 go_wp2
 go_ret
 exact⟨rfl,rfl⟩
theorem zkD(c:Int)(w:World)(h:¬scP c) :
  Calls prog 123 #[.int .i32 c] w fun e w'=>e = .returned (.slice none 0 0)∧w'=w:=by
 go_enter func123,ntmps123
 go_wp2_with fail
 refine (zm8 _ _ h).mono ?_
 rintro e w' ⟨rfl,rfl⟩
 go_wp2
 go_ret
 exact⟨rfl,rfl⟩
theorem zh6(w:World)(zs:List Int)(m:Nat)(hm:m≤maxLen)(hl:zs.length=m) :
  (w.alloc (.cells (zs.map (Value.int .u8)).toArray 5)).ownsRow w.heap.size 5 1 (.slice (some ⟨w.heap.size,0,none⟩) m m) m (zs.map (Value.int .u8)):=by
 have:=World.ownsRow_lit (base:=w.heap.size) (e:=5) (size:=1) w (zs.map (Value.int .u8)).toArray m (lr _) hm (by simp[hl])
 simpa using this
theorem zh7(c:Int)(w:World)(h:scP c) :
  Calls prog 123 #[.int .i32 c] w fun e w'=>e = .returned (.slice (some ⟨w.heap.size,0,none⟩) (putB c).length (putB c).length)∧w'=w.alloc (.cells ((putB c).map (Value.int .u8)).toArray 5):=by
 have hc0:0≤c:=by unfold scP at h;omega
 have hc1:c≤1114111:=by unfold scP at h;omega
 by_cases h1:c<128
 ·rw[zcc h1]
  go_enter func123,ntmps123
  go_wp2_with fail
  refine (zea _ _ h).mono ?_
  rintro e w' ⟨rfl,rfl⟩
  go_wp2
  go_ret
  exact⟨rfl,rfl⟩
 by_cases h2:c<2048
 ·rw[zdj (by omega) h2]
  go_enter func123,ntmps123
  go_wp2_with fail
  refine (zea _ _ h).mono ?_
  rintro e w' ⟨rfl,rfl⟩
  go_wp2
  go_ret
  exact⟨rfl,rfl⟩
 by_cases h3:c<65536
 ·rw[zdk (by omega) h3]
  go_enter func123,ntmps123
  go_wp2_with fail
  refine (zea _ _ h).mono ?_
  rintro e w' ⟨rfl,rfl⟩
  go_wp2
  go_ret
  exact⟨rfl,rfl⟩
 rw[zeM (by omega)]
 go_enter func123,ntmps123
 go_wp2_with fail
 refine (zea _ _ h).mono ?_
 rintro e w' ⟨rfl,rfl⟩
 go_wp2
 go_ret
 exact⟨rfl,rfl⟩
theorem zb2(a:Option Addr)(n c:Nat)(zs:List Int)(w:World)(h:Row .i32 w a n c zs)(hn:4 * n≤140737488355328) :
  Calls prog 104 #[.slice a n c] w fun e w'=>e = .returned (.tuple #[.string (encS zs),.bool (zs.all scB)])∧Below w.heap.size w w':=by
 obtain⟨i0,hi,hz0,hz1,hz2⟩:=info_parts info8
 go_enter func104,ntmps104
 go_wp2
 go_loopw [4,5] (fun v i wr=>∃ k:Nat,k≤n∧i = .int .i64 k∧wr.ownsRow w.heap.size 5 1 v (flat zs k).length ((flat zs k).map (Value.int .u8))∧Below w.heap.size w wr∧Hid (∀ j,j<k→scP (zs.getD j 0))) (fun _ i _=>n-(intOf i).toNat)
 case atStart=>exact⟨0,Nat.zero_le _,rfl,World.ownsRow_nil _ _ _ _,Below.refl _ _,Hi (fun j hj=>by omega)⟩
 case round =>
  obtain⟨k,hk,rfl,hown,hbel,hall⟩:=hrel;have hlen:=h.len;have HL:=Hi hlen;clear hlen
  by_cases hlt:k<n
  ·rcases h.at_ with h0 | ⟨b,off,rfl,hbw,hcell⟩
   ·omega
   have c1:=(hbel.cell (p:=⟨b,off+k,none⟩) hbw).trans (hcell k hlt);obtain⟨x,hx⟩:∃ x,x=zs.getD k 0:=⟨_,rfl⟩;rw[←hx] at c1;have Hx:=Hi hx;clear hx hcell
   by_cases hs:scP x
   ·have hfl:=zfJ zs k
    have hpl:=zcd x;obtain⟨o,ho⟩:∃ o,o=Obj.cells ((putB x).map (Value.int .u8)).toArray 5 (0,0):=⟨_,rfl⟩;have R:=Hi (zh7 x wr hs);have hlit:=zh6 wr (putB x) (putB x).length (by unfold maxLen;omega) rfl
    rw[←ho] at R hlit;have Hcells:=Hi ((zay hlit).choose_spec.choose_spec);obtain⟨P,hP⟩:∃ P,P=putB x:=⟨_,rfl⟩;rw[←hP] at R hlit hpl;have HP:=Hi hP
    have hcel:∀ j u,(P.map (Value.int .u8))[j]? = some u→(wr.alloc o).cell? ((⟨wr.heap.size,0,none⟩:Addr).add j)=some u:=by
     obtain⟨a',cap',e',hr⟩:=zay hlit;simp only[Value.slice.injEq] at e';obtain⟨rfl,_,rfl⟩:=e';exact hr.cells _ rfl
    have hne:((P.length:Int)==0)=false:=by simp;intro e;rw[e] at hpl;simp at hpl
    have hownA:=hown.alloc o;have Hlt:=Hi hown.lt;clear hown hlit Hcells ho hP
    go_wp2_with fail
    refine (uh R).mono ?_
    rintro e w' ⟨rfl,rfl⟩;clear R
    go_wp2_with (at_builtin;refine wpList_append_own _ rfl _ _ 24 rfl w.heap.size 5 i0 (.int .u8 0) 1 1 underlying24 hi hz0 hz1 hz2 rfl (by decide) _ _ _ rfl hownA ⟨wr.heap.size,0,none⟩ P.length P.length (P.map (Value.int .u8)) rfl (by simp) hcel (ints_oneCell _ _) (by unfold maxLen;omega) (by omega) (by have:=hbel.size;simp;omega) ?_;intro v' w2 hown' hgrow _)
    go_roundw
    case rel =>
     refine⟨k+1,by omega,by go_num,?_,?_,Hi (fun j hj=>?_)⟩
     ·rw[zev zs k (by rw[uh HL];exact hlt),←uh Hx,←uh HP]
      simpa using hown'
     ·exact (hbel.alloc hbel.size o).grown hgrow (by have:=hbel.size;simp;omega) (fun k hk=>(uh Hlt k hk).1)
     ·by_cases hjk:j<k
      ·exact uh hall j hjk
      ·obtain rfl:j=k:=by omega
       rw[←uh Hx];exact hs
    case measure=>simp[intOf];omega
   ·have hnot:=Hi (zhL zs k (by rw[uh HL];exact hlt) (by rw[←uh Hx];exact hs))
    go_wp2_with fail
    refine (zkD _ _ hs).mono ?_
    rintro e w' ⟨rfl,rfl⟩
    go_wp2
    go_ret2
    rw[uh hnot,zhb (uh hnot)];exact⟨rfl,hbel⟩
  ·have hyes:=Hi (zka zs (fun j hj=>uh hall j (by rw[uh HL] at hj;omega)))
   have hfl:=Hi (zfI zs k (by rw[uh HL];omega))
   obtain⟨a',cap',rfl,hrow⟩:=zay hown;have hconv:=zcE (P:=prog) hrow 24 9 5 underlying24 underlying5 underlying9;clear hown
   go_wp2
   go_ret2
   rw[uh hyes,zfE (uh hyes),←uh hfl];exact⟨rfl,hbel⟩
end mem
end Go.Proofs.YtepmbmbnlmbhhaaGreat
