import Derived.Test.YtepmbmbnlmbhhaaGreatPla2
import Derived.Deep.LoopGhost
import Derived.WalkMore
import Derived.Shelf.Strings.Runes
import Derived.Test.YtepmbmbnlmbhhaaGreatProg
import Derived.Shelf.Small.Strs
set_option linter.unusedVariables false
set_option linter.unusedSimpArgs false
set_option maxHeartbeats 16000000
set_option maxRecDepth 8000
namespace Go.Proofs.YtepmbmbnlmbhhaaGreat.mem
open Go.ChangeShapes Go.WideShapes Go.ChangeAt Go.RowKit
open ints (Hi uh)
def hpB(t p:ByteArray):Bool:=decide (p.size≤t.size) && ((t.extract 0 p.size).toList==p.toList)
theorem znF(t p:ByteArray)(w:World)(ht:t.size≤9223372036854775807)(hp:p.size≤9223372036854775807) :
  Calls Tryz.prog 134 #[.string t,.string p] w fun e w'=>e = .returned (.bool (hpB t p))∧w'=w:=by
 by_cases h:p.size≤t.size
 ·have hb:=Hi (show hpB t p=((t.extract 0 p.size).toList==p.toList) from by simp[hpB,h])
  have h1:(p.size:Int)≤(t.size:Int):=by omega
  go_enter Tryz.func134,Tryz.ntmps134
  go_wp2
  go_ret
  rw[uh hb];exact⟨rfl,rfl⟩
 ·have hb:=Hi (show hpB t p=false from by simp[hpB,h])
  have h1:¬(p.size:Int)≤(t.size:Int):=by omega
  go_enter Tryz.func134,Tryz.ntmps134
  go_wp2
  go_ret
  rw[uh hb];exact⟨rfl,rfl⟩
theorem zke(t p:ByteArray)(w:World)(ht:t.size≤9223372036854775807)(hp:p.size≤9223372036854775807) :
  Calls Tryz.prog 106 #[.string t,.string p] w fun e w'=>e = .returned (.bool (hpB t p))∧w'=w:=by
 go_enter Tryz.func106,Tryz.ntmps106
 go_wp2_with fail
 refine (znF _ _ _ ht hp).mono ?_
 rintro e w' ⟨rfl,rfl⟩
 go_wp2
 go_ret
 exact⟨rfl,rfl⟩
theorem zbH(s:ByteArray)(a b:Nat):(s.extract a b).data.toList=(s.data.toList.drop a).take (b-a):=by
 rw[ByteArray.data_extract,Array.toList_extract]
theorem zds(s:ByteArray)(a b:Nat):bytesZ (s.extract a b)=((bytesZ s).drop a).take (b-a):=by
 unfold bytesZ;rw[zbH,List.map_take,List.map_drop]
theorem zhi(s:ByteArray)(p:Nat)(h:p≤s.size):hpB (s.extract p s.size) ⟨#[239,191,189]⟩=decide (((bytesZ s).drop p).take 3=[239,191,189]):=by
 have hz:(s.extract p s.size).size=s.size-p:=by simp
 have hp3:(⟨#[239,191,189]⟩:ByteArray).size=3:=rfl;have hl:s.data.toList.length=s.size:=by rw[Array.length_toList];rfl
 unfold hpB;rw[hz,hp3,ByteArray.toList_eq,ByteArray.toList_eq,zbH,zbH];rw[List.take_of_length_le (l:=s.data.toList.drop p) (by simp)]
 unfold bytesZ;rw[←List.map_drop];have hd:(s.data.toList.drop p).length=s.size-p:=by rw[List.length_drop,hl]
 rw[←hd]
 generalize s.data.toList.drop p=L
 rw[Bool.eq_iff_iff]
 match L with
 | []=>simp
 | [a]=>simp
 | [a,b]=>simp
 | a::b::c::r =>
  simp only[List.drop_zero,Nat.sub_zero,List.length_cons,List.take_succ_cons,List.take_zero,List.map_cons,Bool.and_eq_true,decide_eq_true_eq,beq_iff_eq,List.cons.injEq,and_true]
  constructor
  ·rintro ⟨_,rfl,rfl,rfl⟩
   exact⟨rfl,rfl,rfl⟩
  ·rintro ⟨h1,h2,h3⟩
   refine⟨by omega,?_,?_,?_⟩
   all_goals apply UInt8.toNat_inj.1
   ·show _=239
    omega
   ·show _=191
    omega
   ·show _=189
    omega
theorem zf0:putB 65533=[239,191,189]:=by decide
theorem zmG(s:ByteArray)(p:Nat)(h:p≤s.size)(ho:(oneL ((bytesZ s).drop p)).2≠0)(hc:(oneL ((bytesZ s).drop p)).1=65533):hpB (s.extract p s.size) ⟨#[239,191,189]⟩=true:=by
 rw[zhi s p h,decide_eq_true_iff];obtain⟨h1,h2,h3⟩:=zcW _ (zcP (zbj s) p) ho;rw[hc,zf0] at h2;rw[h2];rfl
theorem znG(s:ByteArray)(p:Nat)(h:p≤s.size)(ho:(oneL ((bytesZ s).drop p)).2=0):hpB (s.extract p s.size) ⟨#[239,191,189]⟩=false:=by
 rw[zhi s p h,decide_eq_false_iff_not];intro e;have h1:(oneL (putB 65533++((bytesZ s).drop p).drop 3)).2=3:=by rw[zd8 65533 (by unfold scP;omega)];rfl
 rw[zf0,←e,List.take_append_drop,ho] at h1
 cases h1
theorem zdu(w:World)(s:ByteArray)(p:Nat):Below w.heap.size w (w.iter s p):=(Below.refl _ _).alloc (lr _) _
theorem zjc(s:ByteArray)(w:World)(hs:s.size≤9223372036854775807) :
  Calls Tryz.prog 94 #[.string s] w fun e w'=>e = .returned (.int .i64 ((decZ (bytesZ s)).2:Int))∧Below w.heap.size w w':=by
 go_enter Tryz.func94,Tryz.ntmps94
 go_wp2
 go_loopw [3] (fun _ wr=>∃ pos f:Nat,wr=w.iter s pos∧pos≤s.size∧s.size-pos≤f∧Hid (pos+(decF f ((bytesZ s).drop pos)).2=(decZ (bytesZ s)).2)) (fun _ wr=>s.size-wr.iterPos w.heap.size)
 case atStart=>exact⟨0,(bytesZ s).length,rfl,Nat.zero_le _,by rw[zaQ];omega,Hi (by simp[decZ])⟩
 case round =>
  obtain⟨pos,f,rfl,hpl,hf,hr⟩:=hrel
  by_cases hp:pos<s.size
  ·have hd:=Hi (zdw s pos hp)
   obtain⟨ch,wd,hdec⟩:∃ ch wd:Nat,Utf8.decode s pos=(ch,wd):=⟨_,_,rfl⟩
   have hnx:∀ ty,(Instr.next (.pointer (some ⟨w.heap.size,0,none⟩)) true ty).run Tryz.prog (w.iter s pos) = .ok (.tuple #[.bool true,.int .i64 pos,.int .i32 (ch:Int)]) (w.iter s (pos+wd)):=fun ty=>by
    have:=run_next_any (P:=Tryz.prog) w s pos ty hp;rw[hdec] at this;exact this
   rw[hdec] at hd;have hex:(s.extract pos s.size).size≤9223372036854775807:=by simp;omega
   by_cases ho:(oneL ((bytesZ s).drop pos)).2=0
   ·have hd':=uh hd
    rw[if_pos ho] at hd';simp only[Prod.mk.injEq] at hd';obtain⟨rfl,rfl⟩:=hd';have hfin:=Hi (show (decZ (bytesZ s)).2=pos from by have:=uh hr;rw[zbS _ _ ho] at this;simpa using this.symm)
    have hh:=Hi (znG s pos (by omega) ho)
    clear hd hdec ho hr
    go_wp2_with fail
    refine (zke _ _ _ hex (by show 3≤_;omega)).mono ?_
    rintro e w' ⟨rfl,rfl⟩;rw[uh hh]
    go_wp2
    go_ret
    rw[uh hfin];exact⟨rfl,zdu _ _ _⟩
   ·have hd':=uh hd
    rw[if_neg ho] at hd';simp only[Prod.mk.injEq] at hd';obtain⟨hch,hwd⟩:=hd';obtain⟨f',rfl⟩:∃ f',f=f'+1:=⟨f-1,by omega⟩
    obtain⟨hsc,_,_⟩:=zcW _ (zcP (zbj s) pos) ho;have hle:=zd7 ((bytesZ s).drop pos);rw[List.length_drop,zaQ] at hle
    have hstep:=Hi (show pos+wd+(decF f' ((bytesZ s).drop (pos+wd))).2=(decZ (bytesZ s)).2 from by
     have:=uh hr;rw[zdR _ _ ho] at this;simp only at this;rw[←hwd,List.drop_drop] at this
     omega)
    have w1:1≤wd:=by omega
    have w2:pos+wd≤s.size:=by omega
    have hcz:(ch:Int)=(oneL ((bytesZ s).drop pos)).1:=by unfold scP at hsc;omega
    by_cases hff:ch=65533
    ·have hh:=Hi (zmG s pos (by omega) ho (by omega))
     have hb:((ch:Int)==65533)=true:=by simp;omega
     clear hd hdec ho hr hch hwd hsc hcz hle hff
     go_wp2_with fail
     refine (zke _ _ _ hex (by show 3≤_;omega)).mono ?_
     rintro e w' ⟨rfl,rfl⟩;rw[uh hh]
     go_wp2
     go_roundw
     case rel=>exact⟨pos+wd,f',rfl,w2,by omega,hstep⟩
     case measure=>simp;omega
    ·have hb:((ch:Int)==65533)=false:=by simp;omega
     clear hd hdec ho hr hch hwd hsc hcz hle hff
     go_wp2
     go_roundw
     case rel=>exact⟨pos+wd,f',rfl,w2,by omega,hstep⟩
     case measure=>simp;omega
  ·have hfin:=Hi (show (decZ (bytesZ s)).2=s.size from by
    have:=uh hr;have e:(bytesZ s).drop pos=[]:=List.drop_eq_nil_of_le (by rw[zaQ];omega)
    rw[zbS _ _ (by rw[e];rfl)] at this
    simp at this
    omega)
   have hnx:∀ ty,(Instr.next (.pointer (some ⟨w.heap.size,0,none⟩)) true ty).run Tryz.prog (w.iter s pos) = .ok (.tuple #[.bool false]) (w.iter s pos):=fun ty=>run_next_end w s pos ty hp
   clear hr
   go_wp2
   go_ret
   rw[uh hfin];exact⟨rfl,zdu _ _ _⟩
theorem zdG:∀ (zs:List Int) (s:ByteArray) (pre:List Int) (bound:Nat) (acc:Array Value),zs.all scB=true→bytesZ s=pre++zs.flatMap putB→zs.length≤bound →
  Conv.runesFrom s bound pre.length acc=acc++(zs.map (Value.int .i32)).toArray
 | [],s,pre,bound,acc,_,hb,_=>by
  have hz:pre.length=s.size:=by rw[←zaQ,hb];simp
  cases bound with
  | zero=>simp[Conv.runesFrom]
  | succ b=>unfold Conv.runesFrom;rw[if_neg (by omega)];simp
 | c::zs,s,pre,0,acc,_,_,hl=>by simp at hl
 | c::zs,s,pre,b+1,acc,ha,hb,hl=>by
  simp only[List.all_cons,Bool.and_eq_true] at ha;have hc:=(zdn c).1 ha.1;have hpl:=zcd c;simp only[List.flatMap_cons] at hb
  have hlt:pre.length<s.size:=by
   rw[←zaQ,hb];simp;omega
  have hd:(bytesZ s).drop pre.length=putB c++zs.flatMap putB:=by rw[hb];simp
  have hdec:=zdw s pre.length hlt;rw[hd,zd8 c hc] at hdec;rw[if_neg (by simp only;omega)] at hdec
  unfold Conv.runesFrom;rw[if_pos hlt,hdec];simp only;have hcz:Int.ofNat c.toNat=c:=by unfold scP at hc;show ((c.toNat:Nat):Int)=c;omega
  rw[hcz];have ih:=zdG zs s (pre++putB c) b (acc.push (.int .i32 c)) ha.2 (by rw[hb,List.append_assoc]) (by simp at hl;omega)
  rw[List.length_append] at ih;rw[ih];simp
theorem zhe(zs:List Int):zs.length≤(zs.flatMap putB).length:=by
 induction zs with
 | nil=>simp
 | cons a l ih=>have:=zcd a;rw[List.flatMap_cons,List.length_append,List.length_cons];omega
theorem zgP(s:ByteArray):Conv.runesFrom (s.extract 0 (decZ (bytesZ s)).2) (s.extract 0 (decZ (bytesZ s)).2).size 0 #[]=((decZ (bytesZ s)).1.map (Value.int .i32)).toArray:=by
 obtain⟨h1,h2,h3,h4⟩:=zbF (bytesZ s).length (bytesZ s) (zbj s)
 have hb:bytesZ (s.extract 0 (decZ (bytesZ s)).2)=[]++(decZ (bytesZ s)).1.flatMap putB:=by
  rw[zds];simp only[List.drop_zero,Nat.sub_zero,List.nil_append];exact h1.symm
 have hl:(decZ (bytesZ s)).1.length≤(s.extract 0 (decZ (bytesZ s)).2).size:=by
  have:=zhe (decZ (bytesZ s)).1;rw[←zaQ,hb]
  simpa using this
 have:=zdG (decZ (bytesZ s)).1 (s.extract 0 (decZ (bytesZ s)).2) [] _ #[] h3 hb hl
 simpa using this
theorem zc3(l:List Int)(h:Byt l):(decZ l).2≤l.length:=(zbF l.length l h).2.1
theorem zcR(l:List Int)(h:Byt l):(decZ l).1.length≤(decZ l).2:=by
 have h1:=zhe (decZ l).1;have h2:=(zbF l.length l h).2.2.2;exact Nat.le_trans h1 (Nat.le_of_eq h2)
theorem zer(s:ByteArray)(w:World)(hs:(decZ (bytesZ s)).1.length≤70368744177664)(g:Nat)(hg:g=(decZ (bytesZ s)).2):∃ V W2,(convert 9 109 (.string (s.extract 0 g))).run Tryz.prog w = .ok V W2 ∧
  W2.ownsRow w.heap.size 21 1 V (decZ (bytesZ s)).1.length ((decZ (bytesZ s)).1.map (Value.int .i32))∧Below w.heap.size w W2:=by
 subst hg;have hr:=zgP s;have hsz:(Conv.runesFrom (s.extract 0 (decZ (bytesZ s)).2) (s.extract 0 (decZ (bytesZ s)).2).size 0 #[]).size=(decZ (bytesZ s)).1.length:=by rw[hr];simp
 have h:=run_runes_of_string (P:=Tryz.prog) w 9 109 21 (s.extract 0 (decZ (bytesZ s)).2) Tryz.underlying9 Tryz.underlying109 Tryz.underlying21 (by rw[hsz];omega)
 rw[hsz,hr] at h;refine⟨_,_,h,⟨by simp,.inr ⟨w.heap.size,_,_,rfl,lr _,heap_alloc_new w.drew _,grownCap_ge _ _ _ _,grownCap_le_maxLen _ _ _ _ (by unfold maxLen;omega),?_,?_⟩⟩,?_⟩
 ·have:=grownCap_ge w (decZ (bytesZ s)).1.length 0 21
  simp;omega
 ·simp
 ·exact (Below.refl _ _).drew.alloc (lr _) _
theorem zgq(s:ByteArray)(w:World)(hs:s.size≤70368744177664)(g:Nat)(hg:g=(decZ (bytesZ s)).2):∃ V W2,(convert 9 109 (.string (s.extract 0 g))).run Tryz.prog w = .ok V W2 ∧
  W2.ownsRow w.heap.size 21 1 V (decZ (bytesZ s)).1.length ((decZ (bytesZ s)).1.map (Value.int .i32))∧Below w.heap.size w W2:=
 zer s w (by
  have h1:=zcR (bytesZ s) (zbj s);have h2:=zc3 (bytesZ s) (zbj s);rw[zaQ] at h2
  omega) g hg
theorem zlB{w:World}{base base':Nat}{e:TypeId}{size:Nat}{v:Value}{n:Nat}{xs:List Value}(h:w.ownsRow base e size v n xs)(hb:base'≤base):w.ownsRow base' e size v n xs:=
 ⟨h.1,h.2.imp id (fun ⟨g',r1,r2,r3,r4,r5⟩=>⟨g',r1,r2,r3,Nat.le_trans hb r4,r5⟩)⟩
theorem zcK(a:Option Addr)(n c:Nat)(zs:List Int)(w:World)(h:Row .u8 w a n c zs)(hz:Byt zs)(hs:n≤70368744177664) :
  Calls Tryz.prog 73 #[.slice a n c] w fun e w'=>∃ v,e = .returned (.tuple #[v,.int .i64 ((decZ zs).2:Int)]) ∧
   w'.ownsRow w.heap.size 21 1 v (decZ zs).1.length ((decZ zs).1.map (Value.int .i32))∧Below w.heap.size w w':=by
 have hsz:(strOfNums zs).size=n:=by rw[strOfNums_size,h.len]
 have hbz:=zgo zs hz;have hconv0:=zcE (P:=Tryz.prog) h 24 9 5 Tryz.underlying24 Tryz.underlying5 Tryz.underlying9;have hg1:=zc3 zs hz;rw[h.len] at hg1;obtain⟨g,hg⟩:∃ g,g=(decZ zs).2:=⟨_,rfl⟩;have G:=Hi (zjc (strOfNums zs) w (by omega))
 have C:=Hi (fun W=>zgq (strOfNums zs) W (by omega) g (by rw[hbz];exact hg))
 rw[hbz] at G C;rw[←hg] at hg1 G ⊢;obtain⟨S,hS⟩:∃ S,S=strOfNums zs:=⟨_,rfl⟩;rw[←hS] at hsz G C hconv0;have hle:g≤S.size:=by omega
 clear hg hbz hS h hsz
 go_enter Tryz.func73,Tryz.ntmps73
 go_wp2_with fail
 refine (uh G).mono ?_
 rintro e w1 ⟨rfl,hb1⟩;obtain⟨V,W2,hconv,hown,hb2⟩:=uh C w1;have hg1i:(g:Int)≤(S.size:Int):=by omega
 clear C G hconv0
 go_wp2
 go_ret2
 exact⟨V,rfl,zlB hown hb1.size,hb1.trans (hb2.mono hb1.size)⟩
end Go.Proofs.YtepmbmbnlmbhhaaGreat.mem
namespace Go.Proofs.YtepmbmbnlmbhhaaGreat.lx
open Go.ChangeShapes Go.WideShapes Go.ChangeAt Go.RowKit
open ints (Hi uh)
open mem (Row)
def src(a:Option Addr)(n c:Nat)(cl:Bool):Value:=.agg #[.slice a n c,.bool cl]
theorem zcn(a:Option Addr)(n c:Nat)(cl:Bool)(l:List Int)(i:Nat)(w:World)(h:Row .i32 w a n c l)(hn:n≤4611686018427387904) :
  Calls Tryz.prog 108 #[src a n c cl,.int .i64 (i:Int)] w fun e w'=>e = .returned (.int .i32 (cAt l i))∧Below w.heap.size w w':=by
 unfold src
 by_cases hi:i<n
 ·have hc:=Hi (zbk (l:=l) (i:=i) (by rw[h.len];exact hi))
  rcases h.at_ with h0 | ⟨b,off,rfl,hb,hcell⟩
  ·omega
  have c1:=hcell i hi;obtain⟨x,hx⟩:∃ x,x=l.getD i 0:=⟨_,rfl⟩;rw[←hx] at c1 hc;have ii:(i:Int)<(n:Int):=by omega
  clear hx hcell
  go_enter Tryz.func108,Tryz.ntmps108
  go_wp2
  go_ret
  rw[uh hc];exact⟨rfl,(Below.refl _ _).alloc (lr _) _⟩
 ·have hc:=Hi (zaI (l:=l) (i:=i) (by rw[h.len];omega))
  have ii:¬(i:Int)<(n:Int):=by omega
  go_enter Tryz.func108,Tryz.ntmps108
  go_wp2
  go_ret
  rw[uh hc];exact⟨rfl,(Below.refl _ _).alloc (lr _) _⟩
theorem zbp(c:Int)(w:World):Calls Tryz.prog 109 #[.int .i32 c] w fun e w'=>e = .returned (.bool (blB c))∧w'=w:=by
 by_cases h:ints.blP c
 ·have:blB c=true:=decide_eq_true h
  rw[this];exact ints.zmb c w h
 ·have:blB c=false:=decide_eq_false h
  rw[this];exact ints.znD c w h
theorem za0(c:Int)(w:World):Calls Tryz.prog 110 #[.int .i32 c] w fun e w'=>e = .returned (.bool (soB c))∧w'=w:=by
 by_cases h:ints.soP c
 ·have:soB c=true:=decide_eq_true h
  rw[this];exact ints.znc c w h
 ·have:soB c=false:=decide_eq_false h
  rw[this];exact ints.znO c w h
theorem zlp(c:Int)(w:World):Calls Tryz.prog 112 #[.int .i32 c] w fun e w'=>e = .returned (.bool (nsB c))∧w'=w:=by
 by_cases h:ints.nsP c
 ·have:nsB c=true:=decide_eq_true h
  rw[this];exact ints.zku c w h
 ·have:nsB c=false:=decide_eq_false h
  rw[this];exact ints.zlo c w h
theorem zmN(c:Int)(w:World):Calls Tryz.prog 138 #[.int .i32 c] w fun e w'=>e = .returned (.bool (nrB c))∧w'=w:=by
 by_cases h:ints.nrP c
 ·have:nrB c=true:=decide_eq_true h
  rw[this];exact ints.zmO c w h
 ·have:nrB c=false:=decide_eq_false h
  rw[this];exact ints.znI c w h
theorem zdU(c:Int)(w:World):Calls Tryz.prog 114 #[.int .i32 c] w fun e w'=>e = .returned (.bool (mem.digB c))∧w'=w:=by
 by_cases h:48≤c∧c≤57
 ·have:mem.digB c=true:=by unfold mem.digB;simpa using h
  rw[this];exact ints.zc4 c w h.1 h.2
 ·have:mem.digB c=false:=by unfold mem.digB;rw[←Bool.not_eq_true];simpa using h
  rw[this];exact ints.zb6 c w h
structure Sb (w0 w:World) (a:Option Addr) (n c:Nat) (cl:Bool):Prop where
 lt:w0.heap.size<w.heap.size
 c0:w.cell? ⟨w0.heap.size,0,none⟩=some (.slice a n c)
 c1:w.cell? ⟨w0.heap.size,1,none⟩=some (.bool cl)
 bel:Below w0.heap.size w0 w
theorem Sb.new(w:World)(a:Option Addr)(n c:Nat)(cl:Bool):Sb w (w.alloc (.cells #[.slice a n c,.bool cl] 113)) a n c cl:=
 ⟨by simp,by simp,by simp,(Below.refl _ _).alloc (lr _) _⟩
theorem Sb.below{w0 w w':World}{a:Option Addr}{n c:Nat}{cl:Bool}(h:Sb w0 w a n c cl)(hb:Below w.heap.size w w'):Sb w0 w' a n c cl:=
 ⟨Nat.lt_of_lt_of_le h.lt hb.size,(hb.cell (p:=⟨w0.heap.size,0,none⟩) h.lt).trans h.c0,(hb.cell (p:=⟨w0.heap.size,1,none⟩) h.lt).trans h.c1,h.bel.trans (hb.mono (Nat.le_of_lt h.lt))⟩
theorem zkh(a:Option Addr)(n c:Nat)(cl:Bool)(l:List Int)(i:Nat)(w:World)(h:Row .i32 w a n c l)(hn:n≤1099511627776)(hi:i≤n) :
  Calls Tryz.prog 96 #[src a n c cl,.int .i64 (i:Int)] w fun e w'=>e = .returned (.int .i64 (ign l false i:Nat))∧Below w.heap.size w w':=by
 have hl:=Hi h.len;obtain⟨R,hR⟩:∃ R,R=ign l false i:=⟨_,rfl⟩;rw[←hR];have HR:=Hi hR.symm;clear hR;unfold src;have hsb:=Hi (Sb.new w a n c cl)
 go_enter Tryz.func96,Tryz.ntmps96
 go_wp2_with fail
 go_step3
 go_wp2_with fail
 go_step3
 go_wp2_with fail
 obtain⟨w1,hw1⟩:∃ w1,w1=w.alloc (.cells #[.slice a n c,.bool cl] 113):=⟨_,rfl⟩;rw[←hw1] at hsb ⊢;clear hw1
 go_loopg [1] (n+1) (fun g vi wr=>∃ k:Nat,k≤n∧n+1≤g+k∧vi = .int .i64 k∧Hid (ign l false k=R)∧Sb w wr a n c cl)
 case atStart=>exact⟨i,hi,by omega,rfl,HR,uh hsb⟩
 case round =>
  obtain⟨k,hk,hg,rfl,hik,hs⟩:=hrel;have d0:=hs.c0;have d1:=hs.c1
  go_wp2_with fail
  refine (zcn a n c cl l k wr (h.below hs.bel) (by omega)).mono ?_
  rintro e w2 ⟨rfl,b2⟩;have hs2:=hs.below b2;obtain⟨x,hx⟩:∃ x,x=cAt l k:=⟨_,rfl⟩;rw[←hx];have Hx:=Hi hx.symm;clear hx hs d0 d1
  go_wp2_with fail
  refine (zbp x w2).mono ?_
  rintro e w3 ⟨rfl,rfl⟩;have hL:=uh hl
  cases hb:blB x
  ·have n35:∀ y:Int,y=35→(y != 35)=false:=fun y e=>by subst e;rfl
   by_cases h35:x=35
   ·subst h35
    have hlt:k<n:=by rw[←hL];exact zaE (uh Hx) (by decide)
    have hik2:=Hi (show ign l true (k+1)=R from by
     have e:=uh hik;rw[zex,uh Hx] at e
     exact e)
    clear n35 hL
    go_wp2_with fail
    go_loopg [1] (n+1) (fun g vi wq=>∃ j:Nat,j<n∧k≤j∧n+1≤g+j∧vi = .int .i64 j∧Hid (ign l true (j+1)=R)∧Sb w wq a n c cl)
    case atStart=>exact⟨k,hlt,lr _,by omega,rfl,hik2,hs2⟩
    case round =>
     obtain⟨j,hj,hkj,hg2,rfl,hij,hs3⟩:=hrel;have d0:=hs3.c0;have d1:=hs3.c1
     go_wp2_with fail
     rw[show ((j:Int)+1)=((j+1:Nat):Int) by omega]
     refine (zcn a n c cl l (j+1) _ (h.below hs3.bel) (by omega)).mono ?_
     rintro e w4 ⟨rfl,b4⟩;have hs4:=hs3.below b4;obtain⟨y,hy⟩:∃ y,y=cAt l (j+1):=⟨_,rfl⟩;rw[←hy];have Hy:=Hi hy.symm;clear hy hs3 d0 d1;have hL:=uh hl
     by_cases hnl:y=10∨y=13
     ·have hlt2:j+1<n:=by rw[←hL];exact zaE (uh Hy) (by omega)
      have hij2:=Hi (show ign l false (j+2)=R from by
       have e:=uh hij;rw[zgs,uh Hy,if_pos hnl] at e
       exact e)
      clear hL
      rcases hnl with rfl | rfl
      ·go_wp2_with fail
       go_roundg (n-1-j)
       case rel=>exact⟨j+2,by omega,by omega,by go_num,hij2,hs4⟩
       case measure=>omega
      ·go_wp2_with fail
       go_roundg (n-1-j)
       case rel=>exact⟨j+2,by omega,by omega,by go_num,hij2,hs4⟩
       case measure=>omega
     ·have e10:(y==10)=false:=by simp;omega
      have e13:(y==13)=false:=by simp;omega
      have Hnl:=Hi hnl;clear hnl
      go_wp2_with fail
      refine (za0 y _).mono ?_
      rintro e w5 ⟨rfl,rfl⟩
      cases hso:soB y
      ·have hij2:=Hi (show j+1=R from by
        have e:=uh hij;rw[zgs,uh Hy,if_neg (uh Hnl),hso] at e
        exact e)
       clear hL
       go_wp2_with fail
       try rw[Exit.noGoto_ret]
       go_ret
       exact⟨by rw[←uh hij2];rfl,hs4.bel⟩
      ·have hlt2:j+1<n:=by
        rw[←hL];exact zaE (uh Hy) (fun e=>by rw[e] at hso;revert hso;decide)
       have hij2:=Hi (show ign l true (j+1+1)=R from by
        have e:=uh hij;rw[zgs,uh Hy,if_neg (uh Hnl),hso] at e
        exact e)
       clear hL
       go_wp2_with fail
       go_roundg (gk-1)
       case rel=>exact⟨j+1,by omega,by omega,by omega,by go_num,hij2,hs4⟩
       case measure=>omega
   ·have hb35:(x != 35)=true:=by simpa using h35
    have hik2:=Hi (show k=R from by
     have e:=uh hik;rw[zex,uh Hx,hb,if_neg (by decide),if_neg h35] at e
     exact e)
    clear h35 n35
    go_wp2_with fail
    try rw[Exit.noGoto_ret]
    go_ret
    exact⟨by rw[←uh hik2];rfl,hs2.bel⟩
  ·have hlt:k<n:=by
    rw[←hL];exact zaE (uh Hx) (fun e=>by rw[e] at hb;revert hb;decide)
   have hik2:=Hi (show ign l false (k+1)=R from by
    have e:=uh hik;rw[zex,uh Hx,hb] at e
    exact e)
   clear hL
   go_wp2_with fail
   go_roundg (gk-1)
   case rel=>exact⟨k+1,by omega,by omega,by go_num,hik2,hs2⟩
   case measure=>omega
theorem zkq(a:Option Addr)(n c:Nat)(cl:Bool)(l:List Int)(i:Nat)(w:World)(h:Row .i32 w a n c l)(hn:n≤1099511627776)(hi:i≤n) :
  Calls Tryz.prog 113 #[src a n c cl,.int .i64 (i:Int)] w fun e w'=>e = .returned (.int .i64 (nam l i:Nat))∧Below w.heap.size w w':=by
 have hl:=Hi h.len;obtain⟨R,hR⟩:∃ R,R=nam l i:=⟨_,rfl⟩;rw[←hR];have HR:=Hi hR.symm;clear hR;unfold src;have hsb:=Hi (Sb.new w a n c cl)
 go_enter Tryz.func113,Tryz.ntmps113
 go_wp2_with fail
 obtain⟨w1,hw1⟩:∃ w1,w1=w.alloc (.cells #[.slice a n c,.bool cl] 113):=⟨_,rfl⟩;rw[←hw1] at hsb ⊢;clear hw1
 go_loopg [1] (n+1) (fun g vi wr=>∃ k:Nat,k≤n∧n+1≤g+k∧vi = .int .i64 k∧Hid (nam l k=R)∧Sb w wr a n c cl)
 case atStart=>exact⟨i,hi,by omega,rfl,HR,uh hsb⟩
 case round =>
  obtain⟨k,hk,hg,rfl,hik,hs⟩:=hrel;have d0:=hs.c0;have d1:=hs.c1
  go_wp2_with fail
  refine (zcn a n c cl l k wr (h.below hs.bel) (by omega)).mono ?_
  rintro e w2 ⟨rfl,b2⟩;have hs2:=hs.below b2;obtain⟨x,hx⟩:∃ x,x=cAt l k:=⟨_,rfl⟩;rw[←hx];have Hx:=Hi hx.symm;clear hx hs d0 d1
  go_wp2_with fail
  refine (zmN x w2).mono ?_
  rintro e w3 ⟨rfl,rfl⟩;have hL:=uh hl
  cases hb:nrB x
  ·have hik2:=Hi (show k=R from by
    have e:=uh hik;rw[zeI,uh Hx,hb] at e
    exact e)
   clear hL
   go_wp2_with fail
   go_ret
   exact⟨by rw[←uh hik2];rfl,hs2.bel⟩
  ·have hlt:k<n:=by
    rw[←hL];exact zaE (uh Hx) (fun e=>by rw[e] at hb;revert hb;decide)
   have hik2:=Hi (show nam l (k+1)=R from by
    have e:=uh hik;rw[zeI,uh Hx,hb] at e
    exact e)
   clear hL
   go_wp2_with fail
   go_roundg (gk-1)
   case rel=>exact⟨k+1,by omega,by omega,by go_num,hik2,hs2⟩
   case measure=>omega
theorem za3(i:Nat)(w:World):Calls Tryz.prog 119 #[.int .i64 (i:Int)] w fun e w'=>e = .returned (.tuple #[.int .i64 1,.int .i64 (i:Int),.string ⟨#[]⟩])∧w'=w:=by
 go_enter Tryz.func119,Tryz.ntmps119
 go_wp2
 go_ret3
 exact⟨rfl,rfl⟩
theorem zkw(a:Option Addr)(n c:Nat)(cl:Bool)(l:List Int)(i:Nat)(w:World)(h:Row .i32 w a n c l)(hn:n≤1099511627776)(hi:i≤n) :
  Calls Tryz.prog 115 #[src a n c cl,.int .i64 (i:Int)] w fun e w'=>e = .returned (.tuple #[.int .i64 (num l i).1,.int .i64 ((num l i).2:Nat),.string ⟨#[]⟩])∧Below w.heap.size w w':=by
 have hl:=Hi h.len;have hsb:=Hi (Sb.new w a n c cl);have hpl:=mem.zfY l i (by rw[h.len];exact hi)
 have hP:=Hi (fun W (hb:Below w.heap.size w W)=>mem.zfi a n c l i W (h.below hb) (by omega) hi)
 have hN:=Hi (show num l i=(if cAt l (mem.pfx l i).1=46∨nrB (cAt l (mem.pfx l i).1) then (1,i) else if (mem.pfx l i).2.2=1 then (4,(mem.pfx l i).1) else if (mem.pfx l i).2.2=2 then (5,(mem.pfx l i).1) else (1,i)) from rfl)
 have hpl1:=hpl.1;obtain⟨N,hNe⟩:∃ N,N=num l i:=⟨_,rfl⟩;rw[←hNe] at hN ⊢;clear hpl hNe;obtain⟨u,hu⟩:∃ u,u=(mem.pfx l i).2.1:=⟨_,rfl⟩;rw[←hu] at hP;clear hu;obtain⟨t,ht⟩:∃ t,t=(mem.pfx l i).1:=⟨_,rfl⟩;obtain⟨f,hf⟩:∃ f,f=(mem.pfx l i).2.2:=⟨_,rfl⟩;rw[←ht,←hf] at hP hN;rw[←ht] at hpl1;clear ht hf;have hL:=uh hl;have htn:t≤n:=by omega
 clear hpl1 hL;unfold src
 go_enter Tryz.func115,Tryz.ntmps115
 go_wp2_with fail
 obtain⟨w1,hw1⟩:∃ w1,w1=w.alloc (.cells #[.slice a n c,.bool cl] 113):=⟨_,rfl⟩;rw[←hw1] at hsb ⊢;clear hw1;refine ((uh hP) w1 (uh hsb).bel).mono ?_
 rintro e w2 ⟨rfl,b2⟩;have hs2:=(uh hsb).below b2;have d0:=hs2.c0;have d1:=hs2.c1;clear hP
 go_wp2_with fail
 refine (zcn a n c cl l t w2 (h.below hs2.bel) (by omega)).mono ?_
 rintro e w3 ⟨rfl,b3⟩;have hs3:=hs2.below b3;obtain⟨x,hx⟩:∃ x,x=cAt l t:=⟨_,rfl⟩;rw[←hx] at hN ⊢;clear hx d0 d1
 by_cases h46:x=46
 ·subst h46
  have hN2:=Hi (show N=(1,i) from by rw[uh hN];simp)
  go_wp2_with fail
  refine (za3 i _).mono ?_
  rintro e w4 ⟨rfl,rfl⟩
  go_wp2_with fail
  go_ret3
  exact⟨by rw[uh hN2];rfl,hs3.bel⟩
 ·have e46:(x==46)=false:=by simpa using h46
  have H46:=Hi h46;clear h46
  go_wp2_with fail
  refine (zmN x _).mono ?_
  rintro e w4 ⟨rfl,rfl⟩
  cases hnr:nrB x
  ·have hN1:=Hi (show N=(if f=1 then (4,t) else if f=2 then (5,t) else (1,i)) from by
    rw[uh hN,if_neg (fun e=>by rcases e with e | e;exact uh H46 e;rw[hnr] at e;cases e)])
   clear hN
   by_cases f1:f=1
   ·subst f1
    go_wp2_with fail
    go_ret3
    exact⟨by rw[uh hN1];rfl,hs3.bel⟩
   ·by_cases f2:f=2
    ·subst f2
     go_wp2_with fail
     go_ret3
     exact⟨by rw[uh hN1];rfl,hs3.bel⟩
    ·have hN2:=Hi (show N=(1,i) from by rw[uh hN1,if_neg f1,if_neg f2])
     have e1:(f==1)=false:=by simpa using f1
     have e2:(f==2)=false:=by simpa using f2
     clear f1 f2
     go_wp2_with fail
     refine (za3 i _).mono ?_
     rintro e w4 ⟨rfl,rfl⟩
     go_wp2_with fail
     go_ret3
     exact⟨by rw[uh hN2];rfl,hs3.bel⟩
  ·have hN2:=Hi (show N=(1,i) from by rw[uh hN];simp[hnr])
   go_wp2_with fail
   refine (za3 i _).mono ?_
   rintro e w4 ⟨rfl,rfl⟩
   go_wp2_with fail
   go_ret3
   exact⟨by rw[uh hN2];rfl,hs3.bel⟩
end Go.Proofs.YtepmbmbnlmbhhaaGreat.lx
namespace Go.Proofs
open Go.Shelf
def Tryz.lays151_ren:Go.Shelf.Ren:=⟨fun | 151=>111 | 152=>137 | 137=>150 | 119=>120 | 224=>151 | 225=>152 | 217=>170 | 266=>185 | n=>n,fun | 9=>9 | 21=>21 | 4=>4 | 3=>3 | 5=>5 | 0=>0 | 46=>176 | n=>n,fun | n=>n⟩
theorem Tryz.lays151:Go.Proofs.Lays.n151 Tryz.prog Tryz.lays151_ren:={
 mixed:=by kernel_rfl
 f119:=Tryz.func120.trans (congrArg some (by kernel_rfl))
 f137:=Tryz.func150.trans (congrArg some (by kernel_rfl))
 f151:=Tryz.func111.trans (congrArg some (by kernel_rfl))
 f152:=Tryz.func137.trans (congrArg some (by kernel_rfl))
 f217:=Tryz.func170.trans (congrArg some (by kernel_rfl))
 f224:=Tryz.func151.trans (congrArg some (by kernel_rfl))
 f225:=Tryz.func152.trans (congrArg some (by kernel_rfl))
 f266:=Tryz.func185.trans (congrArg some (by kernel_rfl))
 t0:=Tryz.underlying0
 a0:=Tryz.isAgg0
 z0:=Tryz.sizeOf0
 v0:=Tryz.zeroValue0
 t3:=Tryz.underlying3
 a3:=Tryz.isAgg3
 z3:=Tryz.sizeOf3
 v3:=Tryz.zeroValue3
 t4:=Tryz.underlying4
 a4:=Tryz.isAgg4
 z4:=Tryz.sizeOf4
 v4:=Tryz.zeroValue4
 t5:=Tryz.underlying5
 a5:=Tryz.isAgg5
 z5:=Tryz.sizeOf5
 v5:=Tryz.zeroValue5
 t9:=Tryz.underlying9
 a9:=Tryz.isAgg9
 z9:=Tryz.sizeOf9
 v9:=Tryz.zeroValue9
 t21:=Tryz.underlying21
 a21:=Tryz.isAgg21
 z21:=Tryz.sizeOf21
 v21:=Tryz.zeroValue21
 t46:=Tryz.underlying176
 a46:=Tryz.isAgg176
 z46:=Tryz.sizeOf176
 v46:=Tryz.zeroValue176 }
open Go.RowKit Go.Lib in
theorem Tryz.strings_ContainsRune_ascii(s:ByteArray)(r:Int)(w:World)(h0:0≤r)(h1:r<128) :
  Calls Tryz.prog 111 #[.string s,.int .i32 r] w fun e w'=>e = .returned (.bool (decide (0≤Lib.indexByte s.data.toList r.toNat.toUInt8)))∧w'=w:=Any.strings_ContainsRune_ascii Tryz.lays151 s r w h0 h1
end Go.Proofs
namespace Go.Proofs.YtepmbmbnlmbhhaaGreat.lx
open Go.ChangeShapes Go.WideShapes Go.ChangeAt Go.RowKit
open ints (Hi uh)
open mem (Row)
def Plain(l:List Int):Prop:=∀ c∈l,0≤c∧c≤127∧c≠34
theorem Plain.at_{l:List Int}(h:Plain l){i:Nat}(hi:i<l.length):0≤cAt l i∧cAt l i≤127∧cAt l i≠34:=by
 rw[zbk hi];exact h _ (by rw[List.getD_eq_getElem?_getD,List.getElem?_eq_getElem hi];exact List.getElem_mem hi)
theorem zmW:∀ k:Nat,k<128→decide (0≤Lib.indexByte [33,36,38,40,41,58,61,64,91,93,123,124,125] ((k:Int).toNat.toUInt8))=puB (k:Int):=by decide +kernel
theorem za7(c:Int)(w:World)(h0:0≤c)(h1:c≤127) :
  Calls Tryz.prog 111 #[.string ⟨#[33,36,38,40,41,58,61,64,91,93,123,124,125]⟩,.int .i32 c] w fun e w'=>e = .returned (.bool (puB c))∧w'=w:=by
 have h:=Tryz.strings_ContainsRune_ascii ⟨#[33,36,38,40,41,58,61,64,91,93,123,124,125]⟩ c w h0 (by omega)
 have e:=zmW c.toNat (by omega)
 rw[Int.toNat_of_nonneg h0] at e;rw[show decide (0≤Lib.indexByte (⟨#[33,36,38,40,41,58,61,64,91,93,123,124,125]⟩:ByteArray).data.toList c.toNat.toUInt8)=puB c from e] at h
 exact h
theorem znP(a:Option Addr)(n c:Nat)(cl:Bool)(l:List Int)(i:Nat)(w:World)(h:Row .i32 w a n c l)(hn:n≤1099511627776)(hi:i≤n)(h34:cAt l i≠34) :
  Calls Tryz.prog 116 #[src a n c cl,.int .i64 (i:Int)] w fun e w'=>e = .returned (.bool false)∧Below w.heap.size w w':=by
 have hsb:=Hi (Sb.new w a n c cl);unfold src
 go_enter Tryz.func116,Tryz.ntmps116
 go_wp2_with fail
 obtain⟨w1,hw1⟩:∃ w1,w1=w.alloc (.cells #[.slice a n c,.bool cl] 113):=⟨_,rfl⟩;rw[←hw1] at hsb ⊢;clear hw1;have d0:=(uh hsb).c0;have d1:=(uh hsb).c1;refine wp_loop_rounds 1 ?_
 rw[rounds_succ]
 go_wp2_with fail
 refine (zcn a n c cl l i w1 (h.below (uh hsb).bel) (by omega)).mono ?_
 rintro e w2 ⟨rfl,b2⟩;have hs2:=(uh hsb).below b2;have e34:(cAt l i != 34)=true:=by simpa using h34
 go_wp2_with fail
 go_ret
 exact⟨rfl,hs2.bel⟩
end Go.Proofs.YtepmbmbnlmbhhaaGreat.lx
namespace Go.Proofs
open Go.Shelf
def Tryz.lays137_ren:Go.Shelf.Ren:=⟨fun | 137=>150 | 217=>170 | 266=>185 | n=>n,fun | 9=>9 | 5=>5 | 3=>3 | n=>n,fun | n=>n⟩
theorem Tryz.lays137:Go.Proofs.Lays.n137 Tryz.prog Tryz.lays137_ren:={
 mixed:=by kernel_rfl
 f137:=Tryz.func150.trans (congrArg some (by kernel_rfl))
 f217:=Tryz.func170.trans (congrArg some (by kernel_rfl))
 f266:=Tryz.func185.trans (congrArg some (by kernel_rfl))
 t3:=Tryz.underlying3
 a3:=Tryz.isAgg3
 z3:=Tryz.sizeOf3
 v3:=Tryz.zeroValue3
 t5:=Tryz.underlying5
 a5:=Tryz.isAgg5
 z5:=Tryz.sizeOf5
 v5:=Tryz.zeroValue5
 t9:=Tryz.underlying9
 a9:=Tryz.isAgg9
 z9:=Tryz.sizeOf9
 v9:=Tryz.zeroValue9 }
open Go.RowKit in
theorem Tryz.strings_IndexByte(s:ByteArray)(c:Int)(w:World) :
  Calls Tryz.prog 150 #[.string s,.int .u8 c] w fun e w'=>e = .returned (.int .i64 (Lib.indexByte s.data.toList c.toNat.toUInt8))∧w'=w:=Any.strings_IndexByte Tryz.lays137 s c w
end Go.Proofs
