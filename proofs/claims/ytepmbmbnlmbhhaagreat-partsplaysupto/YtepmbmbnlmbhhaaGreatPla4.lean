import Derived.Test.YtepmbmbnlmbhhaaGreatPla3
import Derived.Laws.Runes
import Derived.Laws.AppendOwnNone
set_option linter.unusedVariables false
set_option linter.unusedSimpArgs false
set_option maxHeartbeats 16000000
set_option maxRecDepth 8000
namespace Go.Proofs.YtepmbmbnlmbhhaaGreat.lx
open Go.ChangeShapes Go.WideShapes Go.ChangeAt Go.RowKit
open mem
open ints (Hi uh)
theorem za1{id:Nat}{Q:Exit→Act→World→Prop}{a:Act}{w:World}:Exit.inBlock id Q .ret a w=Q .ret a w:=rfl
theorem zbC{n:Act→World→Prop}{Q:Exit→Act→World→Prop}{a:Act}{w:World}:Exit.then n Q .ret a w=Q .ret a w:=rfl
theorem zje(l:List UInt8)(c:UInt8)(h:∀ b∈l,b≠c):Lib.indexByte l c = -1:=by
 induction l with
 | nil=>rfl
 | cons b l ih =>
  have h1:=h b (by simp)
  have h2:=ih (fun x hx=>h x (by simp[hx]))
  unfold Lib.indexByte;rw[h2];simp[h1]
theorem zfN(l:List UInt8)(k:Nat)(hk:128≤k)(hk2:k<256)(hl:l.all (fun b=>decide (b.toNat<128))=true):Lib.indexByte l ((k:Int).toNat.toUInt8) = -1:=by
 apply zje
 intro b hb e;rw[List.all_eq_true] at hl;have h1:=hl b hb;simp only[decide_eq_true_eq] at h1;rw[e] at h1;simp at h1;omega
theorem zd0(k m:Nat)(W:World)(hk:k=2∨k=3∨k=4)(h1:128≤m)(h2:m<256) :
  Calls Tryz.prog 150 #[.string ((⟨#[33,36,38,40,41,58,61,64,91,93,123,124,125]⟩:ByteArray).extract k 13),.int .u8 (m:Int)] W fun e w'=>e = .returned (.int .i64 (-1))∧w'=W:=by
 have h:=Tryz.strings_IndexByte ((⟨#[33,36,38,40,41,58,61,64,91,93,123,124,125]⟩:ByteArray).extract k 13) (m:Int) W;rw[zfN _ _ h1 h2 (by rcases hk with rfl | rfl | rfl <;> decide +kernel)] at h
 exact h
set_option maxRecDepth 100000 in
theorem zmH(c:Int)(w:World)(hs:scP c)(h0:128≤c)(hf:¬c=65533) :
  Calls Tryz.prog 137 #[.string ⟨#[33,36,38,40,41,58,61,64,91,93,123,124,125]⟩,.int .i32 c] w fun e w'=>e = .returned (.int .i64 (-1))∧Below w.heap.size w w':=by
 have V:=Hi (fun W=>zcm c W hs)
 have h1:c≤1114111:=by unfold scP at hs;omega
 obtain⟨z1,z2,z3⟩:=encode_facts c ((by obtain⟨n,rfl⟩:∃ n:Nat,c=n:=⟨c.toNat,by omega⟩;exact (zcl n).2 (by unfold scP at hs;omega))) h0
 have hcv:=fun W=>run_convert_int_string (P:=Tryz.prog) W 21 9 .i32 c (by rw[Tryz.underlying21];rfl) Tryz.underlying9
 obtain⟨R,hR⟩:∃ R,R=Utf8.encode c:=⟨_,rfl⟩;rw[←hR] at z1 z2 z3 hcv;clear hs hR;have hlt:R.size-1<R.size:=by omega
 have z4:=z3 hlt;clear z3;have wr2:IntKind.i64.wrap 2=2:=by decide
 have wr3:IntKind.i64.wrap 3=3:=by decide
 have wr4:IntKind.i64.wrap 4=4:=by decide
 rcases (show R.size=2∨R.size=3∨R.size=4 by omega) with hz | hz | hz
 ·have hl1:1<R.size:=by omega
  have z5:128≤(R[1]'hl1).toNat:=by
   have e:∀ (j:Nat) (hj:j<R.size),j=1→(R[j]'hj).toNat=(R[1]'hl1).toNat:=by intro j hj e;subst e;rfl
   rw[←e _ hlt (by omega)];exact z4
  have hk2:=UInt8.toNat_lt (R[1]'hl1);have n1:(((⟨#[33,36,38,40,41,58,61,64,91,93,123,124,125]⟩:ByteArray)[1]'(by decide)).toNat:Int)=36:=rfl
  have IB:=fun (W:World)=>zd0 2 _ W (by decide) z5 hk2
  obtain⟨x,hx⟩:∃ x,x=(R[1]'hl1).toNat:=⟨_,rfl⟩;rw[←hx] at z5 IB;have hx2:(R[1]'hl1).toNat=x:=hx.symm;have hne:¬(36:Int)=(x:Int):=by omega
  clear hx z4 hlt hk2
  go_enter Tryz.func137,Tryz.ntmps137
  go_wp2_with fail
  refine (uh V _).mono ?_
  rintro e w1 ⟨rfl,rfl⟩
  go_wp2_with fail
  go_step3
  go_wp2_with fail
  refine wp_loop_rounds 1 ?_
  rw[rounds_succ]
  go_wp2_with fail
  go_step3
  go_wp2_with fail
  go_region
  go_wp2_with fail
  go_quiet ((refine Calls.mono (IB _) ?_;rintro e w' ⟨rfl,rfl⟩;exact⟨rfl,_,rfl⟩))
  go_wp2
  rw[Exit.noGoto_ret,za1,zbC,za1,zbC,Exit.noGoto_ret]
  go_ret
  exact⟨rfl,Go.below_drewN (Below.refl _ _) _⟩
 ·have hl2:2<R.size:=by omega
  have z5:128≤(R[2]'hl2).toNat:=by
   have e:∀ (j:Nat) (hj:j<R.size),j=2→(R[j]'hj).toNat=(R[2]'hl2).toNat:=by intro j hj e;subst e;rfl
   rw[←e _ hlt (by omega)];exact z4
  have hk2:=UInt8.toNat_lt (R[2]'hl2);have n1:(((⟨#[33,36,38,40,41,58,61,64,91,93,123,124,125]⟩:ByteArray)[2]'(by decide)).toNat:Int)=38:=rfl
  have IB:=fun (W:World)=>zd0 3 _ W (by decide) z5 hk2
  obtain⟨x,hx⟩:∃ x,x=(R[2]'hl2).toNat:=⟨_,rfl⟩;rw[←hx] at z5 IB;have hx2:(R[2]'hl2).toNat=x:=hx.symm;have hne:¬(38:Int)=(x:Int):=by omega
  clear hx z4 hlt hk2
  go_enter Tryz.func137,Tryz.ntmps137
  go_wp2_with fail
  refine (uh V _).mono ?_
  rintro e w1 ⟨rfl,rfl⟩
  go_wp2_with fail
  go_step3
  go_wp2_with fail
  refine wp_loop_rounds 1 ?_
  rw[rounds_succ]
  go_wp2_with fail
  go_step3
  go_wp2_with fail
  go_region
  go_wp2_with fail
  go_quiet ((refine Calls.mono (IB _) ?_;rintro e w' ⟨rfl,rfl⟩;exact⟨rfl,_,rfl⟩))
  go_wp2
  rw[Exit.noGoto_ret,za1,zbC,za1,zbC,Exit.noGoto_ret]
  go_ret
  exact⟨rfl,Go.below_drewN (Below.refl _ _) _⟩
 ·have hl3:3<R.size:=by omega
  have z5:128≤(R[3]'hl3).toNat:=by
   have e:∀ (j:Nat) (hj:j<R.size),j=3→(R[j]'hj).toNat=(R[3]'hl3).toNat:=by intro j hj e;subst e;rfl
   rw[←e _ hlt (by omega)];exact z4
  have hk2:=UInt8.toNat_lt (R[3]'hl3);have n1:(((⟨#[33,36,38,40,41,58,61,64,91,93,123,124,125]⟩:ByteArray)[3]'(by decide)).toNat:Int)=40:=rfl
  have IB:=fun (W:World)=>zd0 4 _ W (by decide) z5 hk2
  obtain⟨x,hx⟩:∃ x,x=(R[3]'hl3).toNat:=⟨_,rfl⟩;rw[←hx] at z5 IB;have hx2:(R[3]'hl3).toNat=x:=hx.symm;have hne:¬(40:Int)=(x:Int):=by omega
  clear hx z4 hlt hk2
  go_enter Tryz.func137,Tryz.ntmps137
  go_wp2_with fail
  refine (uh V _).mono ?_
  rintro e w1 ⟨rfl,rfl⟩
  go_wp2_with fail
  go_step3
  go_wp2_with fail
  refine wp_loop_rounds 1 ?_
  rw[rounds_succ]
  go_wp2_with fail
  go_step3
  go_wp2_with fail
  go_region
  go_wp2_with fail
  go_quiet ((refine Calls.mono (IB _) ?_;rintro e w' ⟨rfl,rfl⟩;exact⟨rfl,_,rfl⟩))
  go_wp2
  rw[Exit.noGoto_ret,za1,zbC,za1,zbC,Exit.noGoto_ret]
  go_ret
  exact⟨rfl,Go.below_drewN (Below.refl _ _) _⟩
theorem zi4(p:Nat)(h:p<13):∃ z:Nat,Utf8.decode ⟨#[33,36,38,40,41,58,61,64,91,93,123,124,125]⟩ p=(z,1)∧z<128:=by
 have e:∀ j:Fin 13,(Utf8.decode ⟨#[33,36,38,40,41,58,61,64,91,93,123,124,125]⟩ j.val).2=1∧(Utf8.decode ⟨#[33,36,38,40,41,58,61,64,91,93,123,124,125]⟩ j.val).1<128:=by decide +kernel
 have:=e ⟨p,h⟩;exact⟨_,Prod.ext rfl this.1,this.2⟩
set_option maxRecDepth 100000 in
theorem zk2(w:World) :
  Calls Tryz.prog 137 #[.string ⟨#[33,36,38,40,41,58,61,64,91,93,123,124,125]⟩,.int .i32 65533] w fun e w'=>e = .returned (.int .i64 (-1))∧Below w.heap.size w w':=by
 have hsz:(⟨#[33,36,38,40,41,58,61,64,91,93,123,124,125]⟩:ByteArray).size=13:=rfl;have hde:=zi4;obtain⟨s,hS⟩:∃ s,s=(⟨#[33,36,38,40,41,58,61,64,91,93,123,124,125]⟩:ByteArray):=⟨_,rfl⟩;rw[←hS] at hsz hde ⊢;have HD:=Hi hde;clear hS hde
 go_enter Tryz.func137,Tryz.ntmps137
 go_wp2
 go_loopw [5] (fun _ wr=>∃ pos:Nat,wr=w.iter s pos∧pos≤13) (fun _ wr=>13-wr.iterPos w.heap.size)
 case atStart=>exact⟨0,rfl,by omega⟩
 case round =>
  obtain⟨pos,rfl,hpl⟩:=hrel
  by_cases hp:pos<13
  ·obtain⟨ch,hdec,hch⟩:=uh HD pos hp
   have hnx:∀ ty,(Instr.next (.pointer (some ⟨w.heap.size,0,none⟩)) true ty).run Tryz.prog (w.iter s pos) = .ok (.tuple #[.bool true,.int .i64 pos,.int .i32 (ch:Int)]) (w.iter s (pos+1)):=fun ty=>by
    have:=run_next_any (P:=Tryz.prog) w s pos ty (by omega)
    rw[hdec] at this;exact this
   have hne:¬(ch:Int)=65533:=by omega
   have hb:((ch:Int)==65533)=false:=by simp[hne]
   clear hdec
   go_wp2
   refine⟨⟨pos+1,rfl,by omega⟩,?_⟩
   simp;omega
  ·have hnx:∀ ty,(Instr.next (.pointer (some ⟨w.heap.size,0,none⟩)) true ty).run Tryz.prog (w.iter s pos) = .ok (.tuple #[.bool false]) (w.iter s pos):=fun ty=>run_next_end (P:=Tryz.prog) w s pos ty (by omega)
   go_wp2
   go_ret
   exact⟨rfl,(Below.refl _ _).alloc (lr _) _⟩
set_option maxRecDepth 100000 in
theorem zk1(w:World):Calls Tryz.prog 137 #[.string ⟨#[33,36,38,40,41,58,61,64,91,93,123,124,125]⟩,.int .i32 (-1)] w fun e w'=>e = .returned (.int .i64 (-1))∧Below w.heap.size w w':=by
 have V:=Hi (fun W=>zek (-1) W (by unfold scP;omega))
 go_enter Tryz.func137,Tryz.ntmps137
 go_wp2_with fail
 refine (uh V _).mono ?_
 rintro e w1 ⟨rfl,rfl⟩;clear V
 go_wp2
 go_ret
 exact⟨rfl,Below.refl _ _⟩
theorem zbD(c:Int)(w:World)(hI:∀ W,Calls Tryz.prog 137 #[.string ⟨#[33,36,38,40,41,58,61,64,91,93,123,124,125]⟩,.int .i32 c] W fun e w'=>e = .returned (.int .i64 (-1))∧Below W.heap.size W w'):Calls Tryz.prog 111 #[.string ⟨#[33,36,38,40,41,58,61,64,91,93,123,124,125]⟩,.int .i32 c] w fun e w'=>e = .returned (.bool false)∧Below w.heap.size w w':=by
 have HI:=Hi hI;clear hI
 go_enter Tryz.func111,Tryz.ntmps111
 go_wp2_with fail
 refine ((uh HI) _).mono ?_
 rintro e w1 ⟨rfl,b1⟩;clear HI
 go_wp2
 go_ret
 exact⟨rfl,b1⟩
theorem zkC{c:Int}(h:128≤c∨c = -1):puB c=false:=by
 rw[←Bool.not_eq_true];intro e
 have hm:c∈puL:=by
  unfold puB at e;exact List.elem_iff.1 e
 simp only[puL,List.mem_cons,List.mem_nil_iff,or_false] at hm;omega
theorem zep(c:Int)(w:World)(h:scP c∨c = -1):Calls Tryz.prog 111 #[.string ⟨#[33,36,38,40,41,58,61,64,91,93,123,124,125]⟩,.int .i32 c] w fun e w'=>e = .returned (.bool (puB c))∧Below w.heap.size w w':=by
 by_cases h1:c = -1
 ·subst h1
  rw[zkC (.inr rfl)];exact zbD _ w zk1
 ·have hs:scP c:=by rcases h with h | h;exact h;exact absurd h h1
  by_cases h2:c≤127
  ·refine (za7 c w (by unfold scP at hs;omega) h2).mono ?_
   rintro e w1 ⟨rfl,rfl⟩;exact⟨rfl,Below.refl _ _⟩
  ·rw[zkC (.inl (by omega))]
   by_cases hf:c=65533
   ·subst hf
    exact zbD _ w zk2
   ·exact zbD _ w (fun W=>zmH c W hs (by omega) hf)
open ints (Hi uh hexV)
open mem (Row scP)
def codeZ(l:List Int):Int:=
 if l.length<6∨l.getD 0 0≠92∨l.getD 1 0≠117 then -1
 else if hexV (l.getD 2 0)<0∨hexV (l.getD 3 0)<0∨hexV (l.getD 4 0)<0∨hexV (l.getD 5 0)<0 then -1
 else ((hexV (l.getD 2 0) * 16+hexV (l.getD 3 0)) * 16+hexV (l.getD 4 0)) * 16+hexV (l.getD 5 0)
theorem zbt(c:Int):hexV c≤15:=by unfold hexV;split;omega;split;omega;split <;> omega
theorem ze2(a:Option Addr)(n c:Nat)(l:List Int)(w:World)(h:Row .i32 w a n c l)(hn:n≤1099511627776) :
  Calls Tryz.prog 191 #[.slice a n c] w fun e w'=>e = .returned (.int .i32 (codeZ l))∧Below w.heap.size w w':=by
 have hl:=Hi h.len
 by_cases h6:n<6
 ·have hz:=Hi (show codeZ l = -1 from by unfold codeZ;rw[if_pos (.inl (by rw[h.len];exact h6))])
  have i6:(n:Int)<6:=by omega
  go_enter Tryz.func191,Tryz.ntmps191
  go_wp2_with fail
  go_ret
  exact⟨by rw[uh hz];rfl,Below.refl _ _⟩
 have i6:¬(n:Int)<6:=by omega
 have i0:(0:Int)<(n:Int):=by omega
 have i1:(1:Int)<(n:Int):=by omega
 have hle:=h.le
 rcases h.at_ with h0 | ⟨b,off,rfl,hb,hc⟩
 ·omega
 have c0:=hc 0 (by omega)
 have c1:=hc 1 (by omega)
 have c2:=hc 2 (by omega)
 have c3:=hc 3 (by omega)
 have c4:=hc 4 (by omega)
 have c5:=hc 5 (by omega)
 have HZ0:=Hi (show codeZ l=(if l.length<6∨l.getD 0 0≠92∨l.getD 1 0≠117 then -1
  else if hexV (l.getD 2 0)<0∨hexV (l.getD 3 0)<0∨hexV (l.getD 4 0)<0∨hexV (l.getD 5 0)<0 then -1
  else ((hexV (l.getD 2 0) * 16+hexV (l.getD 3 0)) * 16+hexV (l.getD 4 0)) * 16+hexV (l.getD 5 0)) from rfl)
 obtain⟨x0,e0⟩:∃ x,x=l.getD 0 0:=⟨_,rfl⟩;obtain⟨x1,e1⟩:∃ x,x=l.getD 1 0:=⟨_,rfl⟩;obtain⟨x2,e2⟩:∃ x,x=l.getD 2 0:=⟨_,rfl⟩;obtain⟨x3,e3⟩:∃ x,x=l.getD 3 0:=⟨_,rfl⟩;obtain⟨x4,e4⟩:∃ x,x=l.getD 4 0:=⟨_,rfl⟩;obtain⟨x5,e5⟩:∃ x,x=l.getD 5 0:=⟨_,rfl⟩;rw[←e0] at c0;rw[←e1] at c1;rw[←e2] at c2;rw[←e3] at c3;rw[←e4] at c4;rw[←e5] at c5;rw[←e0,←e1,←e2,←e3,←e4,←e5] at HZ0
 have c0':w.cell? ⟨b,off,none⟩=some (.int .i32 x0):=c0;clear e0 e1 e2 e3 e4 e5 hc c0
 by_cases hx0:x0=92
 ·by_cases hx1:x1=117
  ·subst hx0 hx1
   have HZ:=Hi (show codeZ l=(if hexV x2<0∨hexV x3<0∨hexV x4<0∨hexV x5<0 then -1 else ((hexV x2 * 16+hexV x3) * 16+hexV x4) * 16+hexV x5) from by
    rw[uh HZ0,if_neg (fun e=>by rcases e with e | e | e;rw[uh hl] at e;omega;exact e rfl;exact e rfl)])
   obtain⟨h0,q0⟩:∃ h,h=hexV x2:=⟨_,rfl⟩;obtain⟨h1,q1⟩:∃ h,h=hexV x3:=⟨_,rfl⟩;obtain⟨h2,q2⟩:∃ h,h=hexV x4:=⟨_,rfl⟩;obtain⟨h3,q3⟩:∃ h,h=hexV x5:=⟨_,rfl⟩;rw[←q0,←q1,←q2,←q3] at HZ;have E0:=Hi q0;have E1:=Hi q1;have E2:=Hi q2;have E3:=Hi q3;clear q0 q1 q2 q3 HZ0;have k2:(2:Int)≤(c:Int):=by omega
   have k6:(6:Int)≤(c:Int):=by omega
   go_enter Tryz.func191,Tryz.ntmps191
   go_wp2_with fail
   refine wp_loop_rounds 5 ?_
   rw[rounds_succ]
   go_wp2_with fail
   refine (ints.zdZ x2 _).mono ?_
   rintro e w2 ⟨rfl,rfl⟩;rw[←uh E0]
   by_cases g0:h0<0
   ·have hz:=Hi (show codeZ l = -1 from by rw[uh HZ,if_pos (by first | exact .inl g0 | exact .inr (.inl g0) | exact .inr (.inr (.inl g0)) | exact .inr (.inr (.inr g0)))])
    go_wp2_with fail
    go_ret
    exact⟨by rw[uh hz];rfl,Below.refl _ _⟩
   have b0:h0≤15:=by rw[uh E0];exact zbt _
   go_wp2_with fail
   rw[rounds_succ]
   go_wp2_with fail
   refine (ints.zdZ x3 _).mono ?_
   rintro e w2 ⟨rfl,rfl⟩;rw[←uh E1]
   by_cases g1:h1<0
   ·have hz:=Hi (show codeZ l = -1 from by rw[uh HZ,if_pos (by first | exact .inl g1 | exact .inr (.inl g1) | exact .inr (.inr (.inl g1)) | exact .inr (.inr (.inr g1)))])
    go_wp2_with fail
    go_ret
    exact⟨by rw[uh hz];rfl,Below.refl _ _⟩
   have b1:h1≤15:=by rw[uh E1];exact zbt _
   go_wp2_with fail
   rw[rounds_succ]
   go_wp2_with fail
   refine (ints.zdZ x4 _).mono ?_
   rintro e w2 ⟨rfl,rfl⟩;rw[←uh E2]
   by_cases g2:h2<0
   ·have hz:=Hi (show codeZ l = -1 from by rw[uh HZ,if_pos (by first | exact .inl g2 | exact .inr (.inl g2) | exact .inr (.inr (.inl g2)) | exact .inr (.inr (.inr g2)))])
    go_wp2_with fail
    go_ret
    exact⟨by rw[uh hz];rfl,Below.refl _ _⟩
   have b2:h2≤15:=by rw[uh E2];exact zbt _
   go_wp2_with fail
   rw[rounds_succ]
   go_wp2_with fail
   refine (ints.zdZ x5 _).mono ?_
   rintro e w2 ⟨rfl,rfl⟩;rw[←uh E3]
   by_cases g3:h3<0
   ·have hz:=Hi (show codeZ l = -1 from by rw[uh HZ,if_pos (by first | exact .inl g3 | exact .inr (.inl g3) | exact .inr (.inr (.inl g3)) | exact .inr (.inr (.inr g3)))])
    go_wp2_with fail
    go_ret
    exact⟨by rw[uh hz];rfl,Below.refl _ _⟩
   have b3:h3≤15:=by rw[uh E3];exact zbt _
   go_wp2_with fail
   rw[rounds_succ]
   go_wp2_with fail
   have hz:=Hi (show codeZ l=(((h0 * 16+h1) * 16+h2) * 16+h3) from by rw[uh HZ,if_neg (by omega)])
   go_ret
   exact⟨by rw[uh hz];rfl,Below.refl _ _⟩
  ·have ne1:(x1 != 117)=true:=by simpa using hx1
   have hz:=Hi (show codeZ l = -1 from by rw[uh HZ0,if_pos (.inr (.inr hx1))])
   subst hx0;clear hx1
   go_enter Tryz.func191,Tryz.ntmps191
   go_wp2_with fail
   go_ret
   exact⟨by rw[uh hz];rfl,Below.refl _ _⟩
 ·have ne0:(x0 != 92)=true:=by simpa using hx0
  have hz:=Hi (show codeZ l = -1 from by rw[uh HZ0,if_pos (.inr (.inl hx0))])
  clear hx0
  go_enter Tryz.func191,Tryz.ntmps191
  go_wp2_with fail
  go_ret
  exact⟨by rw[uh hz];rfl,Below.refl _ _⟩
end Go.Proofs.YtepmbmbnlmbhhaaGreat.lx
namespace Go.Proofs
open Go.Shelf
def Tryz.lays152_ren:Go.Shelf.Ren:=⟨fun | 152=>137 | 137=>150 | 119=>120 | 224=>151 | 225=>152 | 217=>170 | 266=>185 | n=>n,fun | 9=>9 | 21=>21 | 3=>3 | 4=>4 | 5=>5 | 0=>0 | 46=>176 | n=>n,fun | n=>n⟩
theorem Tryz.lays152:Go.Proofs.Lays.n152 Tryz.prog Tryz.lays152_ren:={
 mixed:=by kernel_rfl
 f119:=Tryz.func120.trans (congrArg some (by kernel_rfl))
 f137:=Tryz.func150.trans (congrArg some (by kernel_rfl))
 f152:=Tryz.func137.trans (congrArg some (by kernel_rfl))
 f217:=Tryz.func170.trans (congrArg some (by kernel_rfl))
 f224:=Tryz.func151.trans (congrArg some (by kernel_rfl))
 f225:=Tryz.func152.trans (congrArg some (by kernel_rfl))
 f266:=Tryz.func185.trans (congrArg some (by kernel_rfl))
 t0:=Tryz.underlying0
 a0:=Tryz.isAgg0
 z0:=Tryz.sizeOf0
 v0:=Tryz.zeroValue0
 t3:=Tryz.underlying3
 a3:=Tryz.isAgg3
 z3:=Tryz.sizeOf3
 v3:=Tryz.zeroValue3
 t4:=Tryz.underlying4
 a4:=Tryz.isAgg4
 z4:=Tryz.sizeOf4
 v4:=Tryz.zeroValue4
 t5:=Tryz.underlying5
 a5:=Tryz.isAgg5
 z5:=Tryz.sizeOf5
 v5:=Tryz.zeroValue5
 t9:=Tryz.underlying9
 a9:=Tryz.isAgg9
 z9:=Tryz.sizeOf9
 v9:=Tryz.zeroValue9
 t21:=Tryz.underlying21
 a21:=Tryz.isAgg21
 z21:=Tryz.sizeOf21
 v21:=Tryz.zeroValue21
 t46:=Tryz.underlying176
 a46:=Tryz.isAgg176
 z46:=Tryz.sizeOf176
 v46:=Tryz.zeroValue176 }
open Go.RowKit Go.Lib in
theorem Tryz.strings_IndexRune_ascii(s:ByteArray)(r:Int)(w:World)(h0:0≤r)(h1:r<128) :
  Calls Tryz.prog 137 #[.string s,.int .i32 r] w fun e w'=>e = .returned (.int .i64 (Lib.indexByte s.data.toList r.toNat.toUInt8))∧w'=w:=Any.strings_IndexRune_ascii Tryz.lays152 s r w h0 h1
end Go.Proofs
namespace Go.Proofs.YtepmbmbnlmbhhaaGreat.lx
open Go.ChangeShapes Go.WideShapes Go.ChangeAt Go.RowKit
open mem
open ints (Hi uh)
theorem zc5(k m:Nat)(W:World)(hk:k=2∨k=3∨k=4)(h1:128≤m)(h2:m<256) :
  Calls Tryz.prog 150 #[.string ((⟨#[34,92,98,102,110,114,116,47]⟩:ByteArray).extract k 8),.int .u8 (m:Int)] W fun e w'=>e = .returned (.int .i64 (-1))∧w'=W:=by
 have h:=Tryz.strings_IndexByte ((⟨#[34,92,98,102,110,114,116,47]⟩:ByteArray).extract k 8) (m:Int) W;rw[zfN _ _ h1 h2 (by rcases hk with rfl | rfl | rfl <;> decide +kernel)] at h
 exact h
set_option maxRecDepth 100000 in
theorem zkT(c:Int)(w:World)(hs:scP c)(h0:128≤c)(hf:¬c=65533) :
  Calls Tryz.prog 137 #[.string ⟨#[34,92,98,102,110,114,116,47]⟩,.int .i32 c] w fun e w'=>e = .returned (.int .i64 (-1))∧Below w.heap.size w w':=by
 have V:=Hi (fun W=>zcm c W hs)
 have h1:c≤1114111:=by unfold scP at hs;omega
 obtain⟨z1,z2,z3⟩:=encode_facts c ((by obtain⟨n,rfl⟩:∃ n:Nat,c=n:=⟨c.toNat,by omega⟩;exact (zcl n).2 (by unfold scP at hs;omega))) h0
 have hcv:=fun W=>run_convert_int_string (P:=Tryz.prog) W 21 9 .i32 c (by rw[Tryz.underlying21];rfl) Tryz.underlying9
 obtain⟨R,hR⟩:∃ R,R=Utf8.encode c:=⟨_,rfl⟩;rw[←hR] at z1 z2 z3 hcv;clear hs hR;have hlt:R.size-1<R.size:=by omega
 have z4:=z3 hlt;clear z3;have wr2:IntKind.i64.wrap 2=2:=by decide
 have wr3:IntKind.i64.wrap 3=3:=by decide
 have wr4:IntKind.i64.wrap 4=4:=by decide
 rcases (show R.size=2∨R.size=3∨R.size=4 by omega) with hz | hz | hz
 ·have hl1:1<R.size:=by omega
  have z5:128≤(R[1]'hl1).toNat:=by
   have e:∀ (j:Nat) (hj:j<R.size),j=1→(R[j]'hj).toNat=(R[1]'hl1).toNat:=by intro j hj e;subst e;rfl
   rw[←e _ hlt (by omega)];exact z4
  have hk2:=UInt8.toNat_lt (R[1]'hl1);have n1:(((⟨#[34,92,98,102,110,114,116,47]⟩:ByteArray)[1]'(by decide)).toNat:Int)=92:=rfl
  have IB:=fun (W:World)=>zc5 2 _ W (by decide) z5 hk2
  obtain⟨x,hx⟩:∃ x,x=(R[1]'hl1).toNat:=⟨_,rfl⟩;rw[←hx] at z5 IB;have hx2:(R[1]'hl1).toNat=x:=hx.symm;have hne:¬(92:Int)=(x:Int):=by omega
  clear hx z4 hlt hk2
  go_enter Tryz.func137,Tryz.ntmps137
  go_wp2_with fail
  refine (uh V _).mono ?_
  rintro e w1 ⟨rfl,rfl⟩
  go_wp2_with fail
  go_step3
  go_wp2_with fail
  refine wp_loop_rounds 1 ?_
  rw[rounds_succ]
  go_wp2_with fail
  go_step3
  go_wp2_with fail
  go_region
  go_wp2_with fail
  go_quiet ((refine Calls.mono (IB _) ?_;rintro e w' ⟨rfl,rfl⟩;exact⟨rfl,_,rfl⟩))
  go_wp2
  rw[Exit.noGoto_ret,za1,zbC,za1,zbC,Exit.noGoto_ret]
  go_ret
  exact⟨rfl,Go.below_drewN (Below.refl _ _) _⟩
 ·have hl2:2<R.size:=by omega
  have z5:128≤(R[2]'hl2).toNat:=by
   have e:∀ (j:Nat) (hj:j<R.size),j=2→(R[j]'hj).toNat=(R[2]'hl2).toNat:=by intro j hj e;subst e;rfl
   rw[←e _ hlt (by omega)];exact z4
  have hk2:=UInt8.toNat_lt (R[2]'hl2);have n1:(((⟨#[34,92,98,102,110,114,116,47]⟩:ByteArray)[2]'(by decide)).toNat:Int)=98:=rfl
  have IB:=fun (W:World)=>zc5 3 _ W (by decide) z5 hk2
  obtain⟨x,hx⟩:∃ x,x=(R[2]'hl2).toNat:=⟨_,rfl⟩;rw[←hx] at z5 IB;have hx2:(R[2]'hl2).toNat=x:=hx.symm;have hne:¬(98:Int)=(x:Int):=by omega
  clear hx z4 hlt hk2
  go_enter Tryz.func137,Tryz.ntmps137
  go_wp2_with fail
  refine (uh V _).mono ?_
  rintro e w1 ⟨rfl,rfl⟩
  go_wp2_with fail
  go_step3
  go_wp2_with fail
  refine wp_loop_rounds 1 ?_
  rw[rounds_succ]
  go_wp2_with fail
  go_step3
  go_wp2_with fail
  go_region
  go_wp2_with fail
  go_quiet ((refine Calls.mono (IB _) ?_;rintro e w' ⟨rfl,rfl⟩;exact⟨rfl,_,rfl⟩))
  go_wp2
  rw[Exit.noGoto_ret,za1,zbC,za1,zbC,Exit.noGoto_ret]
  go_ret
  exact⟨rfl,Go.below_drewN (Below.refl _ _) _⟩
 ·have hl3:3<R.size:=by omega
  have z5:128≤(R[3]'hl3).toNat:=by
   have e:∀ (j:Nat) (hj:j<R.size),j=3→(R[j]'hj).toNat=(R[3]'hl3).toNat:=by intro j hj e;subst e;rfl
   rw[←e _ hlt (by omega)];exact z4
  have hk2:=UInt8.toNat_lt (R[3]'hl3);have n1:(((⟨#[34,92,98,102,110,114,116,47]⟩:ByteArray)[3]'(by decide)).toNat:Int)=102:=rfl
  have IB:=fun (W:World)=>zc5 4 _ W (by decide) z5 hk2
  obtain⟨x,hx⟩:∃ x,x=(R[3]'hl3).toNat:=⟨_,rfl⟩;rw[←hx] at z5 IB;have hx2:(R[3]'hl3).toNat=x:=hx.symm;have hne:¬(102:Int)=(x:Int):=by omega
  clear hx z4 hlt hk2
  go_enter Tryz.func137,Tryz.ntmps137
  go_wp2_with fail
  refine (uh V _).mono ?_
  rintro e w1 ⟨rfl,rfl⟩
  go_wp2_with fail
  go_step3
  go_wp2_with fail
  refine wp_loop_rounds 1 ?_
  rw[rounds_succ]
  go_wp2_with fail
  go_step3
  go_wp2_with fail
  go_region
  go_wp2_with fail
  go_quiet ((refine Calls.mono (IB _) ?_;rintro e w' ⟨rfl,rfl⟩;exact⟨rfl,_,rfl⟩))
  go_wp2
  rw[Exit.noGoto_ret,za1,zbC,za1,zbC,Exit.noGoto_ret]
  go_ret
  exact⟨rfl,Go.below_drewN (Below.refl _ _) _⟩
theorem zha(p:Nat)(h:p<8):∃ z:Nat,Utf8.decode ⟨#[34,92,98,102,110,114,116,47]⟩ p=(z,1)∧z<128:=by
 have e:∀ j:Fin 8,(Utf8.decode ⟨#[34,92,98,102,110,114,116,47]⟩ j.val).2=1∧(Utf8.decode ⟨#[34,92,98,102,110,114,116,47]⟩ j.val).1<128:=by decide +kernel
 have:=e ⟨p,h⟩;exact⟨_,Prod.ext rfl this.1,this.2⟩
set_option maxRecDepth 100000 in
theorem zi2(w:World) :
  Calls Tryz.prog 137 #[.string ⟨#[34,92,98,102,110,114,116,47]⟩,.int .i32 65533] w fun e w'=>e = .returned (.int .i64 (-1))∧Below w.heap.size w w':=by
 have hsz:(⟨#[34,92,98,102,110,114,116,47]⟩:ByteArray).size=8:=rfl;have hde:=zha;obtain⟨s,hS⟩:∃ s,s=(⟨#[34,92,98,102,110,114,116,47]⟩:ByteArray):=⟨_,rfl⟩;rw[←hS] at hsz hde ⊢;have HD:=Hi hde;clear hS hde
 go_enter Tryz.func137,Tryz.ntmps137
 go_wp2
 go_loopw [5] (fun _ wr=>∃ pos:Nat,wr=w.iter s pos∧pos≤8) (fun _ wr=>8-wr.iterPos w.heap.size)
 case atStart=>exact⟨0,rfl,by omega⟩
 case round =>
  obtain⟨pos,rfl,hpl⟩:=hrel
  by_cases hp:pos<8
  ·obtain⟨ch,hdec,hch⟩:=uh HD pos hp
   have hnx:∀ ty,(Instr.next (.pointer (some ⟨w.heap.size,0,none⟩)) true ty).run Tryz.prog (w.iter s pos) = .ok (.tuple #[.bool true,.int .i64 pos,.int .i32 (ch:Int)]) (w.iter s (pos+1)):=fun ty=>by
    have:=run_next_any (P:=Tryz.prog) w s pos ty (by omega)
    rw[hdec] at this;exact this
   have hne:¬(ch:Int)=65533:=by omega
   have hb:((ch:Int)==65533)=false:=by simp[hne]
   clear hdec
   go_wp2
   refine⟨⟨pos+1,rfl,by omega⟩,?_⟩
   simp;omega
  ·have hnx:∀ ty,(Instr.next (.pointer (some ⟨w.heap.size,0,none⟩)) true ty).run Tryz.prog (w.iter s pos) = .ok (.tuple #[.bool false]) (w.iter s pos):=fun ty=>run_next_end (P:=Tryz.prog) w s pos ty (by omega)
   go_wp2
   go_ret
   exact⟨rfl,(Below.refl _ _).alloc (lr _) _⟩
def idxE(c:Int):Int:=if c=34 then 0 else if c=92 then 1 else if c=98 then 2 else if c=102 then 3 else if c=110 then 4 else if c=114 then 5 else if c=116 then 6 else if c=47 then 7 else -1
theorem zkU(c:Int)(w:World)(hs:scP c) :
  Calls Tryz.prog 137 #[.string ⟨#[34,92,98,102,110,114,116,47]⟩,.int .i32 c] w fun e w'=>e = .returned (.int .i64 (idxE c))∧Below w.heap.size w w':=by
 by_cases h0:c<128
 ·have hc0:0≤c:=by unfold scP at hs;omega
  have e:∀ j:Fin 128,Lib.indexByte (⟨#[34,92,98,102,110,114,116,47]⟩:ByteArray).data.toList ((j.val:Int)).toNat.toUInt8=idxE (j.val:Int):=by decide +kernel
  obtain⟨n,rfl⟩:∃ n:Nat,c=n:=⟨c.toNat,by omega⟩
  refine (Tryz.strings_IndexRune_ascii _ _ w hc0 h0).mono ?_
  rintro e1 w1 ⟨rfl,rfl⟩;have:=e ⟨n,by omega⟩
  simp only at this;rw[this];exact⟨rfl,Below.refl _ _⟩
 ·have e:idxE c = -1:=by
   unfold idxE;rw[if_neg (by omega),if_neg (by omega),if_neg (by omega),if_neg (by omega),if_neg (by omega),if_neg (by omega),if_neg (by omega),if_neg (by omega)]
  rw[e]
  by_cases hf:c=65533
  ·subst hf
   exact zi2 w
  ·exact zkT c w hs (by omega) hf
open ints (Hi uh hexV)
theorem ziN(l:List Int):codeZ l≤65535:=by
 unfold codeZ;have h2:=zbt (l.getD 2 0);have h3:=zbt (l.getD 3 0);have h4:=zbt (l.getD 4 0);have h5:=zbt (l.getD 5 0)
 split
 ·omega
 split <;> omega
theorem zb5(l:List Int)(h:0≤codeZ l):6≤l.length:=by
 by_cases h6:l.length<6
 ·unfold codeZ at h
  rw[if_pos (.inl h6)] at h;omega
 ·omega
theorem zg0(l:List Int):-1≤codeZ l:=by
 unfold codeZ
 split
 ·omega
 split <;> omega
def cdZ(l:List Int):Int × Nat:=
 if codeZ l<0 then (0,0)
 else if ¬(55296≤codeZ l∧codeZ l≤57343) then (codeZ l,6)
 else if 55296≤codeZ l∧codeZ l≤56319∧56320≤codeZ (l.drop 6)∧codeZ (l.drop 6)≤57343 then (65536+(codeZ l-55296) * 1024+(codeZ (l.drop 6)-56320),12)
 else (0,0)
theorem zcX{k:IntKind}{w:World}{b off n c:Nat}{l:List Int}(h:Row k w (some ⟨b,off,none⟩) n c l)(j:Nat)(hj:j≤n):Row k w (some ⟨b,off+j,none⟩) (n-j) (c-j) (l.drop j):=by
 have hl:=h.len;have hle:=h.le;refine⟨by rw[List.length_drop,hl],by omega,(fun e=>by cases e),?_⟩
 rcases h.at_ with h0 | ⟨b',off',he,hb,hc⟩
 ·exact .inl (by omega)
 ·simp only[Option.some.injEq,Addr.mk.injEq] at he
  obtain⟨rfl,rfl,_⟩:=he;refine .inr ⟨b,off+j,rfl,hb,fun i hi=>?_⟩
  have:=hc (j+i) (by omega)
  rw[show off+j+i=off+(j+i) from by omega,this]
  simp[List.getD]
theorem ziO(a:Option Addr)(n c:Nat)(l:List Int)(w:World)(h:Row .i32 w a n c l)(hn:n≤1099511627776) :
  Calls Tryz.prog 188 #[.slice a n c] w fun e w'=>e = .returned (.tuple #[.int .i32 (cdZ l).1,.int .i64 ((cdZ l).2:Int)])∧Below w.heap.size w w':=by
 have hl:=Hi h.len;have H:=Hi (ze2 a n c l w h hn)
 by_cases h0:codeZ l<0
 ·have hz:=Hi (show cdZ l=(0,0) from by unfold cdZ;rw[if_pos h0])
  go_enter Tryz.func188,Tryz.ntmps188
  go_wp2_with fail
  refine (uh H).mono ?_
  rintro e w1 ⟨rfl,hb1⟩
  go_wp2_with fail
  go_ret2
  exact⟨by rw[uh hz];rfl,hb1⟩
 have h6:6≤n:=by rw[←h.len];exact zb5 l (by omega)
 have hle:=h.le
 obtain⟨b,off,rfl⟩:∃ b off,a=some ⟨b,off,none⟩:=by
  rcases h.at_ with h1 | ⟨b,off,e,_⟩
  ·omega
  ·exact⟨b,off,e⟩
 have hle2:=ziN l
 by_cases h1:55296≤codeZ l∧codeZ l≤57343
 ·obtain⟨h1,h2⟩:=h1
  have V:=Hi (fun W=>zek (codeZ l) W (by unfold scP;omega))
  have H2:=Hi (fun W (hR:Row .i32 W (some ⟨b,off+6,none⟩) (n-6) (c-6) (l.drop 6))=>ze2 _ _ _ _ W hR (by omega))
  have HR:=Hi (zcX h 6 h6);have k6:(6:Int)≤(c:Int):=by omega
  have k6n:(6:Int)≤(n:Int):=by omega
  have p6:=zg0 (l.drop 6);have HZ:=Hi (fun (W:World) (e:c=6)=>show Row .i32 W (some ⟨b,off,none⟩) (n-6) 0 (l.drop 6) from ⟨by rw[List.length_drop,uh hl],by omega,(fun e=>by cases e),.inl (by omega)⟩)
  have HY:=Hi (fun (W:World) (hR:Row .i32 W (some ⟨b,off,none⟩) (n-6) 0 (l.drop 6))=>ze2 _ _ _ _ W hR (by omega))
  by_cases h3:codeZ l≤56319∧56320≤codeZ (l.drop 6)∧codeZ (l.drop 6)≤57343
  ·have hz:=Hi (show cdZ l=(65536+(codeZ l-55296) * 1024+(codeZ (l.drop 6)-56320),12) from by unfold cdZ;rw[if_neg h0,if_neg (fun e=>e ⟨h1,h2⟩),if_pos ⟨h1,h3⟩])
   have J:=Hi (fun W=>ints.zjh _ _ W h1 h3.1 h3.2.1 h3.2.2)
   go_enter Tryz.func188,Tryz.ntmps188
   go_wp2_with fail
   refine (uh H).mono ?_
   rintro e w1 ⟨rfl,hb1⟩
   go_wp2_with fail
   refine (uh V _).mono ?_
   rintro e w2 ⟨rfl,rfl⟩
   go_wp2_with fail
   ·refine (uh HY _ (uh HZ _ (by omega))).mono ?_
    rintro e w3 ⟨rfl,hb3⟩
    go_wp2_with fail
    refine (uh J _).mono ?_
    rintro e w4 ⟨rfl,rfl⟩
    go_wp2_with fail
    go_ret2
    exact⟨by rw[uh hz];rfl,hb1.trans (hb3.mono hb1.size)⟩
   ·refine (uh H2 _ ((uh HR).below hb1)).mono ?_
    rintro e w3 ⟨rfl,hb3⟩
    go_wp2_with fail
    refine (uh J _).mono ?_
    rintro e w4 ⟨rfl,rfl⟩
    go_wp2_with fail
    go_ret2
    exact⟨by rw[uh hz];rfl,hb1.trans (hb3.mono hb1.size)⟩
  ·have hz:=Hi (show cdZ l=(0,0) from by unfold cdZ;rw[if_neg h0,if_neg (fun e=>e ⟨h1,h2⟩),if_neg (fun e=>h3 e.2)])
   have J:=Hi (fun W=>ints.zlc (codeZ l) (codeZ (l.drop 6)) W (fun e=>h3 e.2))
   go_enter Tryz.func188,Tryz.ntmps188
   go_wp2_with fail
   refine (uh H).mono ?_
   rintro e w1 ⟨rfl,hb1⟩
   go_wp2_with fail
   refine (uh V _).mono ?_
   rintro e w2 ⟨rfl,rfl⟩
   go_wp2_with fail
   ·refine (uh HY _ (uh HZ _ (by omega))).mono ?_
    rintro e w3 ⟨rfl,hb3⟩
    go_wp2_with fail
    refine (uh J _).mono ?_
    rintro e w4 ⟨rfl,rfl⟩
    go_wp2_with fail
    go_ret2
    exact⟨by rw[uh hz];rfl,hb1.trans (hb3.mono hb1.size)⟩
   ·refine (uh H2 _ ((uh HR).below hb1)).mono ?_
    rintro e w3 ⟨rfl,hb3⟩
    go_wp2_with fail
    refine (uh J _).mono ?_
    rintro e w4 ⟨rfl,rfl⟩
    go_wp2_with fail
    go_ret2
    exact⟨by rw[uh hz];rfl,hb1.trans (hb3.mono hb1.size)⟩
 ·have V:=Hi (fun W=>zcm (codeZ l) W (by unfold scP;omega))
  have hz:=Hi (show cdZ l=(codeZ l,6) from by unfold cdZ;rw[if_neg h0,if_pos h1])
  go_enter Tryz.func188,Tryz.ntmps188
  go_wp2_with fail
  refine (uh H).mono ?_
  rintro e w1 ⟨rfl,hb1⟩
  go_wp2_with fail
  refine (uh V _).mono ?_
  rintro e w2 ⟨rfl,rfl⟩
  go_wp2_with fail
  go_ret2
  exact⟨by rw[uh hz];rfl,hb1⟩
def meanZ(c:Int):Int:=if c=98 then 8 else if c=102 then 12 else if c=110 then 10 else if c=114 then 13 else if c=116 then 9 else c
def escZ(l:List Int):Int × Nat:=
 if l.length<2 then (0,0)
 else if l.getD 1 0=117 then cdZ l
 else if idxE (l.getD 1 0)<0 then (0,0)
 else (meanZ (l.getD 1 0),2)
theorem zcu(c:Int)(h:¬idxE c<0):c=34∨c=92∨c=98∨c=102∨c=110∨c=114∨c=116∨c=47:=by
 unfold idxE at h
 split at h;omega
 split at h;omega
 split at h;omega
 split at h;omega
 split at h;omega
 split at h;omega
 split at h;omega
 split at h;omega
 omega
theorem zhd(a:Option Addr)(n c:Nat)(l:List Int)(w:World)(h:Row .i32 w a n c l)(hn:n≤1099511627776)(hs:∀ x∈l,scP x) :
  Calls Tryz.prog 177 #[.slice a n c] w fun e w'=>e = .returned (.tuple #[.int .i32 (escZ l).1,.int .i64 ((escZ l).2:Int)])∧Below w.heap.size w w':=by
 have hl:=Hi h.len;have HS:=Hi hs;clear hs
 by_cases h2:n<2
 ·have hz:=Hi (show escZ l=(0,0) from by unfold escZ;rw[if_pos (by rw[uh hl];exact h2)])
  have i2:(n:Int)<2:=by omega
  go_enter Tryz.func177,Tryz.ntmps177
  go_wp2_with fail
  go_ret2
  exact⟨by rw[uh hz];rfl,Below.refl _ _⟩
 have i2:¬(n:Int)<2:=by omega
 have i1:(1:Int)<(n:Int):=by omega
 have hle:=h.le
 rcases h.at_ with h0 | ⟨b,off,rfl,hb,hc⟩
 ·omega
 have hsc:=Hi (uh HS (l.getD 1 0) (by
  have hll:l.length=n:=uh hl;have h1:1<l.length:=by omega
  have e:l.getD 1 0=l[1]:=by simp[List.getD,h1]
  rw[e]
  exact List.getElem_mem _))
 have c1:=hc 1 (by omega)
 have HZ:=Hi (show escZ l=(if l.getD 1 0=117 then cdZ l else if idxE (l.getD 1 0)<0 then (0,0) else (meanZ (l.getD 1 0),2)) from by unfold escZ;rw[if_neg (by rw[uh hl];exact h2)])
 have HC:=Hi (ziO _ n c l w h hn);obtain⟨x,hx⟩:∃ x,x=l.getD 1 0:=⟨_,rfl⟩;rw[←hx] at c1 HZ hsc;clear hx hc
 by_cases hu:x=117
 ·subst hu
  have hz:=Hi (show escZ l=cdZ l from by rw[uh HZ,if_pos rfl])
  clear HZ
  go_enter Tryz.func177,Tryz.ntmps177
  go_wp2_with fail
  refine (uh HC).mono ?_
  rintro e w1 ⟨rfl,hb1⟩
  go_wp2_with fail
  go_ret2
  exact⟨by rw[uh hz];rfl,hb1⟩
 have HI:=Hi (zkU x w (uh hsc))
 by_cases hi:idxE x<0
 ·obtain⟨y,hy⟩:∃ y,y=idxE x:=⟨_,rfl⟩
  have hz:=Hi (show escZ l=(0,0) from by rw[uh HZ,if_neg hu,if_pos hi])
  rw[←hy] at HI hi;clear hy HZ
  go_enter Tryz.func177,Tryz.ntmps177
  go_wp2_with fail
  refine (uh HI).mono ?_
  rintro e w1 ⟨rfl,hb1⟩
  go_wp2_with fail
  go_ret2
  exact⟨by rw[uh hz];rfl,hb1⟩
 have hz:=Hi (show escZ l=(meanZ x,2) from by rw[uh HZ,if_neg hu,if_neg hi])
 clear HZ;have n0:(((⟨#[34,92,8,12,10,13,9,47]⟩:ByteArray)[0]'(by decide)).toNat:Int)=34:=rfl
 have n1:(((⟨#[34,92,8,12,10,13,9,47]⟩:ByteArray)[1]'(by decide)).toNat:Int)=92:=rfl
 have n2:(((⟨#[34,92,8,12,10,13,9,47]⟩:ByteArray)[2]'(by decide)).toNat:Int)=8:=rfl
 have n3:(((⟨#[34,92,8,12,10,13,9,47]⟩:ByteArray)[3]'(by decide)).toNat:Int)=12:=rfl
 have n4:(((⟨#[34,92,8,12,10,13,9,47]⟩:ByteArray)[4]'(by decide)).toNat:Int)=10:=rfl
 have n5:(((⟨#[34,92,8,12,10,13,9,47]⟩:ByteArray)[5]'(by decide)).toNat:Int)=13:=rfl
 have n6:(((⟨#[34,92,8,12,10,13,9,47]⟩:ByteArray)[6]'(by decide)).toNat:Int)=9:=rfl
 have n7:(((⟨#[34,92,8,12,10,13,9,47]⟩:ByteArray)[7]'(by decide)).toNat:Int)=47:=rfl
 rcases zcu x hi with rfl | rfl | rfl | rfl | rfl | rfl | rfl | rfl
 ·rw[show idxE 34=0 from rfl] at HI
  clear hi hu
  go_enter Tryz.func177,Tryz.ntmps177
  go_wp2_with fail
  refine (uh HI).mono ?_
  rintro e w1 ⟨rfl,hb1⟩
  go_wp2_with fail
  go_ret2
  exact⟨by rw[uh hz];rfl,hb1⟩
 ·rw[show idxE 92=1 from rfl] at HI
  clear hi hu
  go_enter Tryz.func177,Tryz.ntmps177
  go_wp2_with fail
  refine (uh HI).mono ?_
  rintro e w1 ⟨rfl,hb1⟩
  go_wp2_with fail
  go_ret2
  exact⟨by rw[uh hz];rfl,hb1⟩
 ·rw[show idxE 98=2 from rfl] at HI
  clear hi hu
  go_enter Tryz.func177,Tryz.ntmps177
  go_wp2_with fail
  refine (uh HI).mono ?_
  rintro e w1 ⟨rfl,hb1⟩
  go_wp2_with fail
  go_ret2
  exact⟨by rw[uh hz];rfl,hb1⟩
 ·rw[show idxE 102=3 from rfl] at HI
  clear hi hu
  go_enter Tryz.func177,Tryz.ntmps177
  go_wp2_with fail
  refine (uh HI).mono ?_
  rintro e w1 ⟨rfl,hb1⟩
  go_wp2_with fail
  go_ret2
  exact⟨by rw[uh hz];rfl,hb1⟩
 ·rw[show idxE 110=4 from rfl] at HI
  clear hi hu
  go_enter Tryz.func177,Tryz.ntmps177
  go_wp2_with fail
  refine (uh HI).mono ?_
  rintro e w1 ⟨rfl,hb1⟩
  go_wp2_with fail
  go_ret2
  exact⟨by rw[uh hz];rfl,hb1⟩
 ·rw[show idxE 114=5 from rfl] at HI
  clear hi hu
  go_enter Tryz.func177,Tryz.ntmps177
  go_wp2_with fail
  refine (uh HI).mono ?_
  rintro e w1 ⟨rfl,hb1⟩
  go_wp2_with fail
  go_ret2
  exact⟨by rw[uh hz];rfl,hb1⟩
 ·rw[show idxE 116=6 from rfl] at HI
  clear hi hu
  go_enter Tryz.func177,Tryz.ntmps177
  go_wp2_with fail
  refine (uh HI).mono ?_
  rintro e w1 ⟨rfl,hb1⟩
  go_wp2_with fail
  go_ret2
  exact⟨by rw[uh hz];rfl,hb1⟩
 ·rw[show idxE 47=7 from rfl] at HI
  clear hi hu
  go_enter Tryz.func177,Tryz.ntmps177
  go_wp2_with fail
  refine (uh HI).mono ?_
  rintro e w1 ⟨rfl,hb1⟩
  go_wp2_with fail
  go_ret2
  exact⟨by rw[uh hz];rfl,hb1⟩
def pceZ(l:List Int):Int × Nat:=
 if l.getD 0 0=92 then escZ l
 else if l.getD 0 0=34∨l.getD 0 0=10∨l.getD 0 0=13∨soB (l.getD 0 0)=false then (0,0)
 else (l.getD 0 0,1)
theorem zjA(a:Option Addr)(n c:Nat)(l:List Int)(w:World)(h:Row .i32 w a n c l)(h0:0<n)(hn:n≤1099511627776)(hs:∀ x∈l,scP x) :
  Calls Tryz.prog 162 #[.slice a n c] w fun e w'=>e = .returned (.tuple #[.int .i32 (pceZ l).1,.int .i64 ((pceZ l).2:Int)])∧Below w.heap.size w w':=by
 have hl:=Hi h.len;have HE:=Hi (zhd a n c l w h hn hs);clear hs;have i0:(0:Int)<(n:Int):=by omega
 have hle:=h.le
 rcases h.at_ with h1 | ⟨b,off,rfl,hb,hc⟩
 ·omega
 have c0:=hc 0 h0;have HZ:=Hi (show pceZ l=(if l.getD 0 0=92 then escZ l else if l.getD 0 0=34∨l.getD 0 0=10∨l.getD 0 0=13∨soB (l.getD 0 0)=false then (0,0) else (l.getD 0 0,1)) from rfl)
 obtain⟨x,hx⟩:∃ x,x=l.getD 0 0:=⟨_,rfl⟩;rw[←hx] at c0 HZ;have c0':w.cell? ⟨b,off,none⟩=some (.int .i32 x):=c0;clear hx hc c0
 by_cases hu:x=92
 ·subst hu
  have hz:=Hi (show pceZ l=escZ l from by rw[uh HZ,if_pos rfl])
  clear HZ
  go_enter Tryz.func162,Tryz.ntmps162
  go_wp2_with fail
  refine (uh HE).mono ?_
  rintro e w1 ⟨rfl,hb1⟩
  go_wp2_with fail
  go_ret2
  exact⟨by rw[uh hz];rfl,hb1⟩
 by_cases hq:x=34∨x=10∨x=13
 ·have hz:=Hi (show pceZ l=(0,0) from by rw[uh HZ,if_neg hu,if_pos (by rcases hq with h | h | h;exact .inl h;exact .inr (.inl h);exact .inr (.inr (.inl h)))])
  clear HZ
  rcases hq with rfl | rfl | rfl
  ·go_enter Tryz.func162,Tryz.ntmps162
   go_wp2_with fail
   go_ret2
   exact⟨by rw[uh hz];rfl,Below.refl _ _⟩
  ·go_enter Tryz.func162,Tryz.ntmps162
   go_wp2_with fail
   go_ret2
   exact⟨by rw[uh hz];rfl,Below.refl _ _⟩
  ·go_enter Tryz.func162,Tryz.ntmps162
   go_wp2_with fail
   go_ret2
   exact⟨by rw[uh hz];rfl,Below.refl _ _⟩
 have q1:¬x=34:=fun e=>hq (.inl e)
 have q2:¬x=10:=fun e=>hq (.inr (.inl e))
 have q3:¬x=13:=fun e=>hq (.inr (.inr e))
 have S:=Hi (fun W=>za0 x W)
 have HZ2:=Hi (show pceZ l=(if soB x=false then (0,0) else (x,1)) from by
  rw[uh HZ,if_neg hu]
  by_cases hs:soB x=false
  ·rw[if_pos (.inr (.inr (.inr hs))),if_pos hs]
  ·rw[if_neg (fun e=>by rcases e with e | e | e | e;exact q1 e;exact q2 e;exact q3 e;exact hs e),if_neg hs])
 clear HZ hq;have g1:(x==34)=false:=by simp[q1]
 have g2:(x==10)=false:=by simp[q2]
 have g3:(x==13)=false:=by simp[q3]
 cases hs:soB x with
 | true =>
  rw[hs] at S HZ2
  go_enter Tryz.func162,Tryz.ntmps162
  go_wp2_with fail
  refine (uh S _).mono ?_
  rintro e w1 ⟨rfl,rfl⟩
  go_wp2_with fail
  go_ret2
  exact⟨by rw[uh HZ2];rfl,Below.refl _ _⟩
 | false =>
  rw[hs] at S HZ2
  go_enter Tryz.func162,Tryz.ntmps162
  go_wp2_with fail
  refine (uh S _).mono ?_
  rintro e w1 ⟨rfl,rfl⟩
  go_wp2_with fail
  go_ret2
  exact⟨by rw[uh HZ2];rfl,Below.refl _ _⟩
theorem zmf(l:List Int):(cdZ l).2≤l.length:=by
 unfold cdZ
 split
 ·exact Nat.zero_le _
 ·rename_i h
  have h6:=zb5 l (by omega)
  split
  ·exact h6
  ·split
   ·rename_i h2
    have:=zb5 (l.drop 6) (by omega)
    rw[List.length_drop] at this
    show 12≤l.length
    omega
   ·exact Nat.zero_le _
theorem zkW(l:List Int):(escZ l).2≤l.length:=by
 unfold escZ
 split
 ·exact Nat.zero_le _
 ·split
  ·exact zmf l
  ·split
   ·exact Nat.zero_le _
   ·show 2≤l.length
    omega
theorem zh1(l:List Int)(h:0<l.length):(pceZ l).2≤l.length:=by
 unfold pceZ
 split
 ·exact zkW l
 ·split
  ·exact Nat.zero_le _
  ·exact h
def quoF:Nat→List Int→Option (List Int)
 | 0,l=>if l.length=0 then some [] else none
 | k+1,l=>if l.length=0 then some [] else if (pceZ l).2=0 then none else (quoF k (l.drop (pceZ l).2)).map ((pceZ l).1 :: ·)
def quo(l:List Int):Option (List Int):=quoF l.length l
def quoS(l:List Int):ByteArray:=match quo l with | some r=>encS r | none=>⟨#[]⟩
def quoE(l:List Int):Int:=match quo l with | some _=>0 | none=>60
theorem zf1(k:Nat)(l:List Int)(h:l.length=0):quoF k l=some []:=by
 cases k with
 | zero=>unfold quoF;rw[if_pos h]
 | succ k=>unfold quoF;rw[if_pos h]
theorem zaC(v:Value)(h:v.oneCell'=true):∀ u∈[v],u.oneCell'=true:=by intro u hu;simp at hu;subst hu;exact h
theorem cellv(w:World)(x:Value)(t:TypeId):∀ j u,[x][j]? = some u→(w.alloc (.cells #[x] t)).cell? ((⟨w.heap.size,0,none⟩:Addr).add j)=some u:=by
 intro j u hj
 match j,hj with
 | 0,hj=>simp at hj;subst hj;simp[Addr.add]
theorem zau{P:Program}(w:World){ops:Array Oper}{rest:List Oper}{o:Oper}{a:Act}{Q:Exit→Act→World→Prop}(hgd:o.guard=none)(s x:Operand)(t:TypeId)
  (ho:o.op = .call { callee:=.builtin .append,args:=#[s,x],argTypes:=#[t,t] })
  (base:Nat) (e:TypeId) (i:TypeInfo) (k:IntKind) (bytes:Nat) (ht:P.underlying t=some (.slice e)) (hi:P.info? e=some i) (hz:i.zero=some (.int k 0))
  (hsize:i.size=1) (hby:i.bytes=bytes)
  (v:Value) (n:Nat) (xs:List Value) (hs:a.eval s=v) (hown:w.ownsRow base e 1 v n xs) (u:Int)
  (hx:a.eval x = .slice (some ⟨w.heap.size,0,none⟩) 1 1)
  (h63:n+1≤maxLen) (hbytes:(n+1) * bytes≤140737488355328) (hbase:base≤w.heap.size)
  (h:∀ v' w',w'.ownsRow base e 1 v' (n+1) (xs++[.int k u])→Below base w w'→wpList P ops Q rest (a.put o.dst v') w') :
  wpList P ops Q (o::rest) a (w.alloc (.cells #[.int k u] e)):=by
 refine wpList_append_own _ hgd s x t ho base e i (.int k 0) 1 bytes ht hi hz hsize hby rfl (by decide) v n xs hs (hown.alloc _) ⟨w.heap.size,0,none⟩ 1 1 [.int k u] hx rfl (cellv w _ e) (zaC _ rfl) h63 hbytes (by simp;omega) ?_
 intro v' w' ho' hg _;exact h v' w' ho' (((Below.refl _ _).alloc hbase _).grown hg (by simp;omega) (fun q hq=>(hown.lt q hq).1))
def slN(v:Value):Nat:=match v with | .slice _ m _=>m | _=>0
theorem zaz{w:World}{base:Nat}{e:TypeId}{v:Value}{n:Nat}{xs:List Value}(h:w.ownsRow base e 1 v n xs):∃ a c,v = .slice a n c:=by
 obtain⟨_,h2⟩:=h
 rcases h2 with ⟨rfl,rfl⟩ | ⟨g,cap,cur,rfl,_⟩
 ·exact⟨_,_,rfl⟩
 ·exact⟨_,_,rfl⟩
theorem zf7{k:IntKind}{w:World}{b off n c:Nat}{l:List Int}(h:Row k w (some ⟨b,off,none⟩) n c l)(j:Nat)(hj:j=n):Row k w (some ⟨b,off,none⟩) (n-j) 0 (l.drop j):=
 ⟨by rw[List.length_drop,h.len],by omega,(fun e=>by cases e),.inl (by omega)⟩
theorem zh8(a:Option Addr)(n c:Nat)(l:List Int)(w:World)(h:Row .i32 w a n c l)(hn:n≤1099511627776)(hs:∀ x∈l,scP x) :
  Calls Tryz.prog 141 #[.slice a n c] w fun e w'=>e = .returned (.tuple #[.string (quoS l),.int .i64 (quoE l)])∧Below w.heap.size w w':=by
 obtain⟨i0,hi,hz0,hz1,hz2⟩:=info_parts info32;have HS:=Hi hs;have HL:=Hi h.len;clear hs
 go_enter Tryz.func141,Tryz.ntmps141
 go_wp2_with fail
 go_loopw [0,4] (fun v ch wr=>∃ a' n' c' l' d fu,v = .slice a' n' c'∧Row .i32 w a' n' c' l'∧n'≤fu∧d.length+n'≤n∧Hid (quo l=(quoF fu l').map (d ++ ·))∧Hid (∀ x∈l',scP x)∧wr.ownsRow w.heap.size 21 1 ch d.length (d.map (Value.int .i32))∧Below w.heap.size w wr) (fun v _ _=>slN v)
 case atStart =>
  refine⟨a,n,c,l,[],n,rfl,h,lr _,by simp,Hi ?_,HS,World.ownsRow_nil _ _ _ _,Below.refl _ _⟩
  unfold quo;rw[uh HL];simp
 case round =>
  obtain⟨a1,n1,c1,l1,d,fu,rfl,hR,hfu,hdn,HQ,HS1,hown,hbel⟩:=hrel
  by_cases h0:0<n1
  ·have i0':(0:Int)<(n1:Int):=by omega
   have hl1:=hR.len;have hle1:=hR.le
   obtain⟨b,off,rfl⟩:∃ b off,a1=some ⟨b,off,none⟩:=by
    rcases hR.at_ with h1 | ⟨b,off,e,_⟩
    ·omega
    ·exact⟨b,off,e⟩
   obtain⟨f2,rfl⟩:∃ f2,fu=f2+1:=⟨fu-1,by omega⟩
   have HP:=Hi (zjA _ n1 c1 l1 _ (hR.below hbel) h0 (by omega) (uh HS1))
   have hpl:=zh1 l1 (by omega)
   rw[hl1] at hpl
   have HQ2:=Hi (show quo l=(if (pceZ l1).2=0 then none else (quoF f2 (l1.drop (pceZ l1).2)).map ((pceZ l1).1 :: ·)).map (d ++ ·) from by
    rw[uh HQ]
    show (if l1.length=0 then some [] else if (pceZ l1).2=0 then none else (quoF f2 (l1.drop (pceZ l1).2)).map ((pceZ l1).1 :: ·)).map (d ++ ·)=_
    rw[if_neg (by omega)])
   have HRD:=Hi (fun (j:Nat) (hj:j≤n1)=>zcX hR j hj)
   have HRZ:=Hi (fun (j:Nat) (hj:j=n1)=>zf7 hR j hj)
   have HLL:=Hi hl1;clear hl1 HQ;obtain⟨X,hX⟩:∃ X,X=(pceZ l1).1:=⟨_,rfl⟩;obtain⟨L,hL⟩:∃ L,L=(pceZ l1).2:=⟨_,rfl⟩;rw[←hX,←hL] at HP HQ2;rw[←hL] at hpl;clear hX hL
   by_cases hL0:L=0
   ·have hq:=Hi (show quo l=none from by rw[uh HQ2,if_pos hL0];rfl)
    subst hL0;clear HQ2
    go_wp2_with fail
    refine (uh HP).mono ?_
    rintro e w1 ⟨rfl,hb1⟩
    go_wp2_with fail
    go_ret2
    exact⟨by rw[show quoS l=⟨#[]⟩ from by unfold quoS;rw[uh hq],show quoE l=60 from by unfold quoE;rw[uh hq]];rfl,hbel.trans (hb1.mono hbel.size)⟩
   ·have HQ3:=Hi (show quo l=(quoF f2 (l1.drop L)).map ((d++[X]) ++ ·) from by
     rw[uh HQ2,if_neg hL0,Option.map_map]
     congr 1
     funext r
     simp)
    have Li:¬(L:Int)=0:=by omega
    have Lb:((L:Int)==0)=false:=by simp;omega
    have L1:(L:Int)≤(n1:Int):=by omega
    have L2:(L:Int)≤(c1:Int):=by omega
    clear HQ2;obtain⟨aB,cB,rfl⟩:=zaz hown
    go_wp2_with fail
    refine (uh HP).mono ?_
    rintro e w1 ⟨rfl,hb1⟩;have hown1:=zah hown hb1;have hbs:=hbel.size;have hb1s:=hb1.size
    go_wp2_with (at_builtin;refine zau _ rfl _ _ 109 rfl w.heap.size 21 i0 .i32 4 Tryz.underlying109 hi hz0 hz1 hz2 _ _ _ rfl hown1 _ rfl (by unfold maxLen;omega) (by omega) (by omega) ?_;intro v' wC hown' hbC)
    refine⟨⟨_,_,_,l1.drop L,d++[X],f2,rfl,?_,by omega,by rw[List.length_append];simp only[List.length_cons,List.length_nil];omega,HQ3,Hi (fun x hx=>uh HS1 x (List.mem_of_mem_drop hx)),?_,?_⟩,?_⟩
    ·by_cases hc1:c1=L
     ·rw[if_pos hc1]
      have hr:=uh HRZ L (by omega)
      rw[show c1-L=0 by omega]
      exact hr
     ·rw[if_neg hc1]
      exact uh HRD L (by omega)
    ·rw[List.length_append,List.map_append]
     exact hown'
    ·exact (hbel.trans (hb1.mono hbs)).trans hbC
    ·show n1-L<n1
     omega
  ·have hz:n1=0:=by omega
   subst hz;have hq:=Hi (show quo l=some d from by rw[uh HQ,zf1 fu l1 hR.len];simp)
   obtain⟨aB,cB,rfl,hRd⟩:=zay hown;have HE:=Hi (zaR aB d.length cB d _ hRd (by omega))
   clear HQ
   go_wp2_with fail
   refine (uh HE).mono ?_
   rintro e w1 ⟨rfl,hb1⟩
   go_wp2_with fail
   go_ret2
   exact⟨by rw[show quoS l=encS d from by unfold quoS;rw[uh hq],show quoE l=0 from by unfold quoE;rw[uh hq]];rfl,hbel.trans (hb1.mono hbel.size)⟩
open mem (Row)
def tq(l:List Int)(i:Nat):Bool:=decide (cAt l i=34∧cAt l (i+1)=34∧cAt l (i+2)=34)
theorem zns(a:Option Addr)(n c:Nat)(cl:Bool)(l:List Int)(i:Nat)(w:World)(h:Row .i32 w a n c l)(hn:n≤1099511627776)(hi:i≤1099511627780) :
  Calls Tryz.prog 116 #[src a n c cl,.int .i64 (i:Int)] w fun e w'=>e = .returned (.bool (tq l i))∧Below w.heap.size w w':=by
 have hsb:=Hi (Sb.new w a n c cl);have hA:=Hi (fun W (hb:Below w.heap.size w W) (k:Nat)=>zcn a n c cl l k W (h.below hb) (by omega))
 obtain⟨R,hR⟩:∃ R,R=tq l i:=⟨_,rfl⟩;rw[←hR];have HR:=Hi hR;clear hR;unfold src at hA ⊢
 go_enter Tryz.func116,Tryz.ntmps116
 go_wp2_with fail
 obtain⟨w1,hw1⟩:∃ w1,w1=w.alloc (.cells #[.slice a n c,.bool cl] 113):=⟨_,rfl⟩;rw[←hw1] at hsb ⊢;clear hw1
 go_loopg [6] 4 (fun g vi wr=>∃ k:Nat,k≤3∧4≤g+k∧vi = .int .i64 k∧Hid (∀ j,j<k→cAt l (i+j)=34)∧Sb w wr a n c cl)
 case atStart=>exact⟨0,by omega,by omega,rfl,Hi (fun j hj=>by omega),uh hsb⟩
 case round =>
  obtain⟨k,hk,hg,rfl,hq,hs⟩:=hrel;have d0:=hs.c0;have d1:=hs.c1
  by_cases hlt:k<3
  ·have k3:(k:Int)<3:=by omega
   go_wp2_with fail
   rw[show ((i:Int)+(k:Int))=((i+k:Nat):Int) by omega]
   refine ((uh hA) wr hs.bel (i+k)).mono ?_
   rintro e w2 ⟨rfl,b2⟩;have hs2:=hs.below b2;obtain⟨x,ex⟩:∃ x,x=cAt l (i+k):=⟨_,rfl⟩;rw[←ex];have Hx:=Hi ex.symm;clear ex d0 d1 hs
   by_cases h34:x=34
   ·subst h34
    go_wp2_with fail
    go_roundg (gk-1)
    case rel=>exact⟨k+1,by omega,by omega,by go_num,Hi (fun j hj=>by
     by_cases e:j<k
     ·exact uh hq j e
     ·obtain rfl:j=k:=by omega
      exact uh Hx),hs2⟩
    case measure=>omega
   ·have e34:(x != 34)=true:=by simpa using h34
    have hf:=Hi (show R=false from by
     rw[uh HR];unfold tq;rw[decide_eq_false_iff_not];rintro ⟨e0,e1,e2⟩
     apply h34
     rw[←uh Hx];have:k=0∨k=1∨k=2:=by omega
     rcases this with rfl | rfl | rfl
     ·exact e0
     ·exact e1
     ·exact e2)
    clear h34
    go_wp2_with fail
    go_ret
    exact⟨by rw[uh hf];rfl,hs2.bel⟩
  ·obtain rfl:k=3:=by omega
   have hf:=Hi (show R=true from by
    rw[uh HR];unfold tq
    exact decide_eq_true ⟨uh hq 0 (by omega),uh hq 1 (by omega),uh hq 2 (by omega)⟩)
   go_wp2_with fail
   go_ret
   exact⟨by rw[uh hf];rfl,hs.bel⟩
end Go.Proofs.YtepmbmbnlmbhhaaGreat.lx
