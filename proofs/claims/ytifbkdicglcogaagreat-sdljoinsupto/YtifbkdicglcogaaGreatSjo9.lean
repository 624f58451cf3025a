import Derived.Test.YtifbkdicglcogaaGreatSjo8
import Derived.Shelf.Small.Strs
import Derived.Laws.Runes
set_option linter.unusedVariables false
set_option linter.unusedSimpArgs false
namespace Go.Proofs.YtifbkdicglcogaaGreat.sv
open Go.ChangeShapes Go.WideShapes Go.ChangeAt Go.RowKit
open mem
open ints (Hi uh soP)
theorem znV (l:List Int) (h:∀ j,j<l.length→whB (l.getD j 0)=true):ind l=l.length:=by
 have hb:blk l=true:=by
  unfold blk;rw[List.all_eq_true];intro x hx;obtain⟨i,hi,rfl⟩:=List.mem_iff_getElem.1 hx;have:=h i hi
  simpa[List.getD,hi] using this
 rw[zgX] at hb;exact beq_iff_eq.1 hb
theorem zhR:∀ (l:List Int) (k:Nat),k<l.length→(∀ j,j<k→whB (l.getD j 0)=true)→whB (l.getD k 0)=false→ind l=k
 | [],k,h,_,_=>by simp at h
 | c :: r,0,_,_,h=>ind0 (by simpa using h)
 | c :: r,k+1,h,h1,h2=>by
  have hc:whB c=true:=by simpa using h1 0 (by omega)
  have e:ind (c :: r)=ind r+1:=by unfold ind;rw[List.takeWhile_cons,hc];simp
  rw[e,zhR r k (by simp at h;omega) (fun j hj=>by simpa using h1 (j+1) (by omega)) (by simpa using h2)]
set_option maxHeartbeats 1000000 in
theorem zgm (a:Option Addr) (n c:Nat) (l:List Int) (w:World) (h:Row .i32 w a n c l) (hn:n≤9223372036854775806) :
  Calls Tryz.prog 144 #[.slice a n c] w fun e w'=>e = .returned (.int .i64 (ind l:Nat))∧w'=w:=by
 have HL:=Hi h.len
 go_enter Tryz.func144,Tryz.ntmps144
 go_wp2
 go_loopw [7] (fun i wr=>∃ k:Nat,k≤n∧i = .int .i64 k∧wr=w∧Hid (∀ j,j<k→whB (l.getD j 0)=true)) (fun i _=>n - (intOf i).toNat)
 case atStart=>exact⟨0,Nat.zero_le _,rfl,rfl,Hi (fun j hj=>by omega)⟩
 case round =>
  obtain⟨k,hk,rfl,rfl,hw⟩:=hrel
  by_cases hlt:k<n
  ·rcases h.at_ with h0 | ⟨b,off,rfl,hbw,hcell⟩
   ·omega
   have c1:=hcell k hlt;obtain⟨x,hx⟩:∃ x,x=l.getD k 0:=⟨_,rfl⟩;rw[← hx] at c1;have Hx:=Hi hx;clear hx hcell
   by_cases h9:x=9
   ·subst h9
    go_wp2
    refine⟨⟨k+1,by omega,rfl,trivial,Hi (fun j hj=>?_)⟩,by simp only[intOf];omega⟩
    by_cases e:j=k
    ·subst e;rw[← uh Hx];rfl
    ·exact uh hw j (by omega)
   ·by_cases h32:x=32
    ·subst h32
     go_wp2
     refine⟨⟨k+1,by omega,rfl,trivial,Hi (fun j hj=>?_)⟩,by simp only[intOf];omega⟩
     by_cases e:j=k
     ·subst e;rw[← uh Hx];rfl
     ·exact uh hw j (by omega)
    ·have b9:(x != 9)=true:=by simp[h9]
     have b32:(x != 32)=true:=by simp[h32]
     go_wp2
     go_ret
     have e:ind l=k:=zhR l k (by rw[uh HL];exact hlt) (uh hw) (by rw[← uh Hx];simp[whB,h9,h32])
     rw[e];exact⟨rfl,rfl⟩
  ·obtain rfl:k=n:=by omega
   go_wp2
   go_ret
   have e:ind l=k:=by rw[znV l (fun j hj=>uh hw j (by rw[← uh HL];exact hj)),uh HL]
   rw[e];exact⟨rfl,rfl⟩
theorem zb0 (a:Option Addr) (n c:Nat) (l:List Int) (w:World) (h:Row .i32 w a n c l) (hn:n≤9223372036854775806) :
  Calls Tryz.prog 126 #[.slice a n c] w fun e w'=>e = .returned (.bool (blk l))∧w'=w:=by
 have I:=Hi (fun W (hW:Row .i32 W a n c l)=>zgm a n c l W hW hn)
 have e:blk l=(((ind l:Nat):Int) == (n:Int)):=by
  rw[zgX,h.len,Bool.eq_iff_iff,beq_iff_eq,beq_iff_eq];omega
 rw[e];obtain⟨m,hm⟩:∃ m,m=ind l:=⟨_,rfl⟩;rw[← hm] at I ⊢;clear e hm
 go_enter Tryz.func126,Tryz.ntmps126
 go_wp2_with fail
 refine (uh I _ h).mono ?_
 rintro e w1 ⟨rfl,rfl⟩;clear I
 go_wp2
 go_ret
 exact⟨rfl,rfl⟩
structure Lns (w:World) (b off n c:Nat) (L:List (List Int)):Prop where
 len:L.length=n
 le:n≤c
 lt:b<w.heap.size
 at_:∀ i,i<n→∃ ai ci,w.cell? ⟨b,off+i,none⟩=some (.slice ai (L.getD i []).length ci)∧Row .i32 w ai (L.getD i []).length ci (L.getD i [])∧∃ bi oi,ai=some ⟨bi,oi,none⟩
theorem Lns.below {w w':World} {b off n c:Nat} {L:List (List Int)} (h:Lns w b off n c L) (hb:Below w.heap.size w w'):Lns w' b off n c L:=
 ⟨h.len,h.le,Nat.lt_of_lt_of_le h.lt hb.size,fun i hi=>by
  obtain⟨ai,ci,h1,h2,h3⟩:=h.at_ i hi
  exact⟨ai,ci,(hb.cell (p:=⟨b,off+i,none⟩) h.lt).trans h1,h2.below hb,h3⟩⟩
theorem zpR {w:World} {base:Nat} {v:Value} {gs:List Nat} {L:List (List Int)} (h:LinesAt w base v gs L) (hn:0<L.length):∃ b c,v = .slice (some ⟨b,0,none⟩) L.length c∧Lns w b 0 L.length c L:=by
 obtain⟨h1,h2⟩:=h.own
 rcases h2 with ⟨_,h0⟩ | ⟨g,cap,cur,rfl,hg,hh,hnc,hcm,hcs,hx⟩
 ·omega
 refine⟨g,cap,rfl,rfl,hnc,(by rcases Nat.lt_or_ge g w.heap.size with h | h;exact h;rw[Array.getElem?_eq_none h] at hh;cases hh),fun i hi=>?_⟩
 have hr:=zcR (h.each i hi);obtain⟨a,cp,e,hrow⟩:=hr;refine⟨a,cp,?_,hrow,⟨_,_,by simp only[lineVal,Value.slice.injEq] at e;exact e.1.symm⟩⟩
 rw[Nat.zero_add];rw[World.ownsRow.cellAt (base:=base) (e:=78) (size:=1) (n:=L.length) (cap:=cap) (xs:=List.zipWith lineVal gs L) ⟨h1,.inr ⟨g,cap,cur,rfl,hg,hh,hnc,hcm,hcs,hx⟩⟩ _ (by omega)]
 rw[← e];have hl:i<gs.length:=by rw[h.len];exact hi
 rw[List.getElem?_zipWith]
 simp[List.getD,hi,hl]
theorem zlJ (L:List (List Int)) (x:List Int):lst (L ++ [x])=if blk x then lst L else some (match lst L with | none=>ind x | some m=>min (ind x) m):=by
 induction L with
 | nil=>simp[lst]
 | cons y L ih =>
  rw[List.cons_append,lst,ih]
  cases hx:blk x
  ·cases hy:blk y
   ·simp only[Bool.false_eq_true,if_false]
    rw[lst,hy]
    cases lst L with
    | none=>simp[Nat.min_comm]
    | some m=>simp;omega
   ·simp only[Bool.false_eq_true,if_false,if_true]
    rw[lst,hy,if_pos rfl]
  ·cases hy:blk y
   ·simp only[Bool.false_eq_true,if_false,if_true]
    rw[lst,hy];simp
   ·simp only[if_true]
    rw[lst,hy,if_pos rfl]
def lsI (L:List (List Int)):Int:=match lst L with | none=>-1 | some m=>m
theorem zlH (L:List (List Int)) (x:List Int):lsI (L ++ [x])=if (ind x:Int)<(x.length:Int)∧(lsI L<0∨(ind x:Int)<lsI L) then (ind x:Int) else lsI L:=by
 have hb:=zgX x;have hle:=zjJ x;unfold lsI;rw[zlJ]
 cases hx:blk x
 ·rw[hx] at hb
  have hlt:ind x<x.length:=by
   have:¬ ind x=x.length:=fun e=>by rw[e] at hb;simp at hb
   omega
  cases lst L with
  | none=>simp only[Bool.false_eq_true,if_false];rw[if_pos (by omega)]
  | some m =>
   simp only[Bool.false_eq_true,if_false]
   by_cases h:ind x<m
   ·rw[if_pos (by omega)];omega
   ·rw[if_neg (by omega)];omega
 ·rw[hx] at hb
  have e:ind x=x.length:=beq_iff_eq.1 hb.symm;simp only[if_true];rw[if_neg (by omega)]
theorem zfe (L:List (List Int)) (k:Nat) (h:k<L.length):L.take (k+1)=L.take k ++ [L.getD k []]:=by
 rw[List.take_add_one];simp[List.getD,h]
theorem zlG (L:List (List Int)) (k:Nat) (h:k<L.length):lsI (L.take (k+1))=if (ind (L.getD k []):Int)<((L.getD k []).length:Int)∧(lsI (L.take k)<0∨(ind (L.getD k []):Int)<lsI (L.take k)) then (ind (L.getD k []):Int) else lsI (L.take k):=by
 rw[zfe L k h];exact zlH _ _
theorem zmL (L:List (List Int)):-1≤lsI L:=by
 unfold lsI
 cases lst L <;> simp only <;> omega
set_option maxHeartbeats 4000000 in
theorem zh0 (b off n c:Nat) (L:List (List Int)) (w:World) (h:Lns w b off n c L) (hn:n≤9223372036854775806) (hm:∀ i,(L.getD i []).length≤1099511627776) :
  Calls Tryz.prog 145 #[.slice (some ⟨b,off,none⟩) n c] w fun e w'=>e = .returned (.int .i64 (max (lsI L) 0))∧Below w.heap.size w w':=by
 have HL:=Hi h.len
 go_enter Tryz.func145,Tryz.ntmps145
 go_wp2
 go_loopw [3,9] (fun t i wr=>∃ k:Nat,k≤n∧i = .int .i64 k∧t = .int .i64 (lsI (L.take k))∧Below w.heap.size w wr) (fun _ i _=>n - (intOf i).toNat)
 case atStart=>exact⟨0,Nat.zero_le _,rfl,rfl,Below.refl _ _⟩
 case round =>
  obtain⟨k,hk,rfl,rfl,hb⟩:=hrel
  by_cases hlt:k<n
  ·obtain⟨ai,ci,h1,h2,_⟩:=(h.below hb).at_ k hlt
   have I:=Hi (fun W (hW:Row .i32 W ai (L.getD k []).length ci (L.getD k []))=>zgm ai _ ci _ W hW (by have:=hm k;omega))
   have hsn:=Hi (zlG L k (by rw[uh HL];exact hlt))
   have hge:=zmL (L.take k);have hmk:=hm k;have H2:=Hi h2;obtain⟨x,hx⟩:∃ x,x=L.getD k []:=⟨_,rfl⟩;rw[← hx] at h1 I hsn hmk H2;obtain⟨T,hT⟩:∃ T,T=lsI (L.take k):=⟨_,rfl⟩;rw[← hT] at hsn hge ⊢;have hil:=zjJ x;obtain⟨m,hm2⟩:∃ m,m=ind x:=⟨_,rfl⟩;rw[← hm2] at I hsn hil;obtain⟨q,hq⟩:∃ q,q=x.length:=⟨_,rfl⟩;rw[← hq] at h1 I hsn hmk hil H2;clear hx hT hm2 hq h2 hm
   have hle:=h.le;have HB:=Hi hb
   by_cases c1:(m:Int)<(q:Int)
   ·by_cases c2:T<0
    ·have e:=Hi (show lsI (L.take (k+1))=(m:Int) by rw[uh hsn,if_pos ⟨c1,.inl c2⟩])
     go_wp2_with fail
     refine (uh I _ (uh H2)).mono ?_
     rintro e w1 ⟨rfl,rfl⟩
     go_wp2
     refine⟨⟨k+1,by omega,rfl,by rw[uh e],uh HB⟩,by simp only[intOf];omega⟩
    ·by_cases c3:(m:Int)<T
     ·have e:=Hi (show lsI (L.take (k+1))=(m:Int) by rw[uh hsn,if_pos ⟨c1,.inr c3⟩])
      go_wp2_with fail
      refine (uh I _ (uh H2)).mono ?_
      rintro e w1 ⟨rfl,rfl⟩
      go_wp2
      refine⟨⟨k+1,by omega,rfl,by rw[uh e],uh HB⟩,by simp only[intOf];omega⟩
     ·have e:=Hi (show lsI (L.take (k+1))=T by rw[uh hsn,if_neg (by omega)])
      go_wp2_with fail
      refine (uh I _ (uh H2)).mono ?_
      rintro e w1 ⟨rfl,rfl⟩
      go_wp2
      refine⟨⟨k+1,by omega,rfl,by rw[uh e],uh HB⟩,by simp only[intOf];omega⟩
   ·have e:=Hi (show lsI (L.take (k+1))=T by rw[uh hsn,if_neg (by omega)])
    go_wp2_with fail
    refine (uh I _ (uh H2)).mono ?_
    rintro e w1 ⟨rfl,rfl⟩
    go_wp2
    refine⟨⟨k+1,by omega,rfl,by rw[uh e],uh HB⟩,by simp only[intOf];omega⟩
  ·obtain rfl:k=n:=by omega
   have e:L.take k=L:=List.take_of_length_le (by rw[uh HL];omega)
   rw[e];have hge:=zmL L;obtain⟨T,hT⟩:∃ T,T=lsI L:=⟨_,rfl⟩;rw[← hT] at hge ⊢;have HT:=Hi hT;clear hT;have HB:=Hi hb
   by_cases c0:T<0
   ·have e2:=Hi (show max T 0=0 by omega)
    go_wp2
    go_ret
    rw[← uh HT,uh e2];exact⟨rfl,uh HB⟩
   ·have e2:=Hi (show max T 0=T by omega)
    go_wp2
    go_ret
    rw[← uh HT,uh e2];exact⟨rfl,uh HB⟩
end Go.Proofs.YtifbkdicglcogaaGreat.sv
namespace Go.Proofs
open Go.Shelf
def Tryz.lays137_ren:Go.Shelf.Ren:=⟨fun | 137=>92 | 217=>123 | 266=>143 | n=>n,fun | 9=>9 | 5=>5 | 3=>3 | n=>n,fun | n=>n⟩
theorem Tryz.lays137:Go.Proofs.Lays.n137 Tryz.prog Tryz.lays137_ren:={
 mixed:=by kernel_rfl
 f137:=Tryz.func92.trans (congrArg some (by kernel_rfl))
 f217:=Tryz.func123.trans (congrArg some (by kernel_rfl))
 f266:=Tryz.func143.trans (congrArg some (by kernel_rfl))
 t3:=Tryz.underlying3
 a3:=Tryz.isAgg3
 z3:=Tryz.sizeOf3
 v3:=Tryz.zeroValue3
 t5:=Tryz.underlying5
 a5:=Tryz.isAgg5
 z5:=Tryz.sizeOf5
 v5:=Tryz.zeroValue5
 t9:=Tryz.underlying9
 a9:=Tryz.isAgg9
 z9:=Tryz.sizeOf9
 v9:=Tryz.zeroValue9 }
open Go.RowKit in
theorem Tryz.strings_IndexByte (s:ByteArray) (c:Int) (w:World) :
  Calls Tryz.prog 92 #[.string s,.int .u8 c] w fun e w'=>e = .returned (.int .i64 (Lib.indexByte s.data.toList c.toNat.toUInt8))∧w'=w:=Any.strings_IndexByte Tryz.lays137 s c w
end Go.Proofs
namespace Go.Proofs.YtifbkdicglcogaaGreat.lx
open Go.ChangeShapes Go.WideShapes Go.ChangeAt Go.RowKit
open mem
open ints (Hi uh)
theorem zbo {id:Nat} {Q:Exit→Act→World→Prop} {a:Act} {w:World}:Exit.inBlock id Q .ret a w=Q .ret a w:=rfl
theorem zck {n:Act→World→Prop} {Q:Exit→Act→World→Prop} {a:Act} {w:World}:Exit.then n Q .ret a w=Q .ret a w:=rfl
theorem zly (l:List UInt8) (c:UInt8) (h:∀ b ∈ l,b ≠ c):Lib.indexByte l c = -1:=by
 induction l with
 | nil=>rfl
 | cons b l ih =>
  have h1:=h b (by simp)
  have h2:=ih (fun x hx=>h x (by simp[hx]))
  unfold Lib.indexByte;rw[h2];simp[h1]
theorem zhQ (l:List UInt8) (k:Nat) (hk:128≤k) (hk2:k<256) (hl:l.all (fun b=>decide (b.toNat<128))=true):Lib.indexByte l ((k:Int).toNat.toUInt8) = -1:=by
 apply zly
 intro b hb e;rw[List.all_eq_true] at hl;have h1:=hl b hb;simp only[decide_eq_true_eq] at h1;rw[e] at h1;simp at h1;omega
theorem zfB (k m:Nat) (W:World) (hk:k=2∨k=3∨k=4) (h1:128≤m) (h2:m<256) :
  Calls Tryz.prog 92 #[.string ((⟨#[33,36,38,40,41,58,61,64,91,93,123,124,125]⟩:ByteArray).extract k 13),.int .u8 (m:Int)] W fun e w'=>e = .returned (.int .i64 (-1))∧w'=W:=by
 have h:=Tryz.strings_IndexByte ((⟨#[33,36,38,40,41,58,61,64,91,93,123,124,125]⟩:ByteArray).extract k 13) (m:Int) W;rw[zhQ _ _ h1 h2 (by rcases hk with rfl | rfl | rfl <;> decide +kernel)] at h
 exact h
set_option maxHeartbeats 16000000 in
set_option maxRecDepth 100000 in
theorem zpC (c:Int) (w:World) (hs:scP c) (h0:128≤c) (hf:¬ c=65533) :
  Calls Tryz.prog 78 #[.string ⟨#[33,36,38,40,41,58,61,64,91,93,123,124,125]⟩,.int .i32 c] w fun e w'=>e = .returned (.int .i64 (-1))∧Below w.heap.size w w':=by
 have V:=Hi (fun W=>zdp c W hs)
 have h1:c≤1114111:=by unfold scP at hs;omega
 obtain⟨z1,z2,z3⟩:=encode_facts c ((by obtain⟨n,rfl⟩:∃ n:Nat,c=n:=⟨c.toNat,by omega⟩;exact (zdo n).2 (by unfold scP at hs;omega))) h0
 have hcv:=fun W=>run_convert_int_string (P:=Tryz.prog) W 21 9 .i32 c (by rw[Tryz.underlying21];rfl) Tryz.underlying9
 obtain⟨R,hR⟩:∃ R,R=Utf8.encode c:=⟨_,rfl⟩;rw[← hR] at z1 z2 z3 hcv;clear hs hR;have hlt:R.size - 1<R.size:=by omega
 have z4:=z3 hlt;clear z3;have wr2:IntKind.i64.wrap 2=2:=by decide
 have wr3:IntKind.i64.wrap 3=3:=by decide
 have wr4:IntKind.i64.wrap 4=4:=by decide
 rcases (show R.size=2∨R.size=3∨R.size=4 by omega) with hz | hz | hz
 ·have hl1:1<R.size:=by omega
  have z5:128≤(R[1]'hl1).toNat:=by
   have e:∀ (j:Nat) (hj:j<R.size),j=1→(R[j]'hj).toNat=(R[1]'hl1).toNat:=by intro j hj e;subst e;rfl
   rw[← e _ hlt (by omega)];exact z4
  have hk2:=UInt8.toNat_lt (R[1]'hl1);have n1:(((⟨#[33,36,38,40,41,58,61,64,91,93,123,124,125]⟩:ByteArray)[1]'(by decide)).toNat:Int)=36:=rfl
  have IB:=fun (W:World)=>zfB 2 _ W (by decide) z5 hk2
  obtain⟨x,hx⟩:∃ x,x=(R[1]'hl1).toNat:=⟨_,rfl⟩;rw[← hx] at z5 IB;have hx2:(R[1]'hl1).toNat=x:=hx.symm;have hne:¬ (36:Int)=(x:Int):=by omega
  clear hx z4 hlt hk2
  go_enter Tryz.func78,Tryz.ntmps78
  go_wp2_with fail
  refine (uh V _).mono ?_
  rintro e w1 ⟨rfl,rfl⟩
  go_wp2_with fail
  go_step3
  go_wp2_with fail
  refine wp_loop_rounds 1 ?_
  rw[rounds_succ]
  go_wp2_with fail
  go_step3
  go_wp2_with fail
  go_region
  go_wp2_with fail
  go_quiet ((refine Calls.mono (IB _) ?_;rintro e w' ⟨rfl,rfl⟩;exact⟨rfl,_,rfl⟩))
  go_wp2
  rw[Exit.noGoto_ret,zbo,zck,zbo,zck,Exit.noGoto_ret]
  go_ret
  exact⟨rfl,Go.below_drewN (Below.refl _ _) _⟩
 ·have hl2:2<R.size:=by omega
  have z5:128≤(R[2]'hl2).toNat:=by
   have e:∀ (j:Nat) (hj:j<R.size),j=2→(R[j]'hj).toNat=(R[2]'hl2).toNat:=by intro j hj e;subst e;rfl
   rw[← e _ hlt (by omega)];exact z4
  have hk2:=UInt8.toNat_lt (R[2]'hl2);have n1:(((⟨#[33,36,38,40,41,58,61,64,91,93,123,124,125]⟩:ByteArray)[2]'(by decide)).toNat:Int)=38:=rfl
  have IB:=fun (W:World)=>zfB 3 _ W (by decide) z5 hk2
  obtain⟨x,hx⟩:∃ x,x=(R[2]'hl2).toNat:=⟨_,rfl⟩;rw[← hx] at z5 IB;have hx2:(R[2]'hl2).toNat=x:=hx.symm;have hne:¬ (38:Int)=(x:Int):=by omega
  clear hx z4 hlt hk2
  go_enter Tryz.func78,Tryz.ntmps78
  go_wp2_with fail
  refine (uh V _).mono ?_
  rintro e w1 ⟨rfl,rfl⟩
  go_wp2_with fail
  go_step3
  go_wp2_with fail
  refine wp_loop_rounds 1 ?_
  rw[rounds_succ]
  go_wp2_with fail
  go_step3
  go_wp2_with fail
  go_region
  go_wp2_with fail
  go_quiet ((refine Calls.mono (IB _) ?_;rintro e w' ⟨rfl,rfl⟩;exact⟨rfl,_,rfl⟩))
  go_wp2
  rw[Exit.noGoto_ret,zbo,zck,zbo,zck,Exit.noGoto_ret]
  go_ret
  exact⟨rfl,Go.below_drewN (Below.refl _ _) _⟩
 ·have hl3:3<R.size:=by omega
  have z5:128≤(R[3]'hl3).toNat:=by
   have e:∀ (j:Nat) (hj:j<R.size),j=3→(R[j]'hj).toNat=(R[3]'hl3).toNat:=by intro j hj e;subst e;rfl
   rw[← e _ hlt (by omega)];exact z4
  have hk2:=UInt8.toNat_lt (R[3]'hl3);have n1:(((⟨#[33,36,38,40,41,58,61,64,91,93,123,124,125]⟩:ByteArray)[3]'(by decide)).toNat:Int)=40:=rfl
  have IB:=fun (W:World)=>zfB 4 _ W (by decide) z5 hk2
  obtain⟨x,hx⟩:∃ x,x=(R[3]'hl3).toNat:=⟨_,rfl⟩;rw[← hx] at z5 IB;have hx2:(R[3]'hl3).toNat=x:=hx.symm;have hne:¬ (40:Int)=(x:Int):=by omega
  clear hx z4 hlt hk2
  go_enter Tryz.func78,Tryz.ntmps78
  go_wp2_with fail
  refine (uh V _).mono ?_
  rintro e w1 ⟨rfl,rfl⟩
  go_wp2_with fail
  go_step3
  go_wp2_with fail
  refine wp_loop_rounds 1 ?_
  rw[rounds_succ]
  go_wp2_with fail
  go_step3
  go_wp2_with fail
  go_region
  go_wp2_with fail
  go_quiet ((refine Calls.mono (IB _) ?_;rintro e w' ⟨rfl,rfl⟩;exact⟨rfl,_,rfl⟩))
  go_wp2
  rw[Exit.noGoto_ret,zbo,zck,zbo,zck,Exit.noGoto_ret]
  go_ret
  exact⟨rfl,Go.below_drewN (Below.refl _ _) _⟩
theorem zlq (p:Nat) (h:p<13):∃ z:Nat,Utf8.decode ⟨#[33,36,38,40,41,58,61,64,91,93,123,124,125]⟩ p=(z,1)∧z<128:=by
 have e:∀ j:Fin 13,(Utf8.decode ⟨#[33,36,38,40,41,58,61,64,91,93,123,124,125]⟩ j.val).2=1∧(Utf8.decode ⟨#[33,36,38,40,41,58,61,64,91,93,123,124,125]⟩ j.val).1<128:=by decide +kernel
 have:=e ⟨p,h⟩;exact⟨_,Prod.ext rfl this.1,this.2⟩
set_option maxHeartbeats 4000000 in
set_option maxRecDepth 100000 in
theorem znS (w:World) :
  Calls Tryz.prog 78 #[.string ⟨#[33,36,38,40,41,58,61,64,91,93,123,124,125]⟩,.int .i32 65533] w fun e w'=>e = .returned (.int .i64 (-1))∧Below w.heap.size w w':=by
 have hsz:(⟨#[33,36,38,40,41,58,61,64,91,93,123,124,125]⟩:ByteArray).size=13:=rfl;have hde:=zlq;obtain⟨s,hS⟩:∃ s,s=(⟨#[33,36,38,40,41,58,61,64,91,93,123,124,125]⟩:ByteArray):=⟨_,rfl⟩;rw[← hS] at hsz hde ⊢;have HD:=Hi hde;clear hS hde
 go_enter Tryz.func78,Tryz.ntmps78
 go_wp2
 go_loopw [5] (fun _ wr=>∃ pos:Nat,wr=w.iter s pos∧pos≤13) (fun _ wr=>13 - wr.iterPos w.heap.size)
 case atStart=>exact⟨0,rfl,by omega⟩
 case round =>
  obtain⟨pos,rfl,hpl⟩:=hrel
  by_cases hp:pos<13
  ·obtain⟨ch,hdec,hch⟩:=uh HD pos hp
   have hnx:∀ ty,(Instr.next (.pointer (some ⟨w.heap.size,0,none⟩)) true ty).run Tryz.prog (w.iter s pos) = .ok (.tuple #[.bool true,.int .i64 pos,.int .i32 (ch:Int)]) (w.iter s (pos+1)):=fun ty=>by
    have:=run_next_any (P:=Tryz.prog) w s pos ty (by omega)
    rw[hdec] at this;exact this
   have hne:¬ (ch:Int)=65533:=by omega
   have hb:((ch:Int) == 65533)=false:=by simp[hne]
   clear hdec
   go_wp2
   refine⟨⟨pos+1,rfl,by omega⟩,?_⟩
   simp;omega
  ·have hnx:∀ ty,(Instr.next (.pointer (some ⟨w.heap.size,0,none⟩)) true ty).run Tryz.prog (w.iter s pos) = .ok (.tuple #[.bool false]) (w.iter s pos):=fun ty=>run_next_end (P:=Tryz.prog) w s pos ty (by omega)
   go_wp2
   go_ret
   exact⟨rfl,ba⟩
set_option maxHeartbeats 4000000 in
set_option maxRecDepth 100000 in
theorem znR (w:World):Calls Tryz.prog 78 #[.string ⟨#[33,36,38,40,41,58,61,64,91,93,123,124,125]⟩,.int .i32 (-1)] w fun e w'=>e = .returned (.int .i64 (-1))∧Below w.heap.size w w':=by
 have V:=Hi (fun W=>zfX (-1) W (by unfold scP;omega))
 go_enter Tryz.func78,Tryz.ntmps78
 go_wp2_with fail
 refine (uh V _).mono ?_
 rintro e w1 ⟨rfl,rfl⟩;clear V
 go_wp2
 go_ret
 exact⟨rfl,Below.refl _ _⟩
theorem zcn (c:Int) (w:World) (hI:∀ W,Calls Tryz.prog 78 #[.string ⟨#[33,36,38,40,41,58,61,64,91,93,123,124,125]⟩,.int .i32 c] W fun e w'=>e = .returned (.int .i64 (-1))∧Below W.heap.size W w'):Calls Tryz.prog 57 #[.string ⟨#[33,36,38,40,41,58,61,64,91,93,123,124,125]⟩,.int .i32 c] w fun e w'=>e = .returned (.bool false)∧Below w.heap.size w w':=by
 have HI:=Hi hI;clear hI
 go_enter Tryz.func57,Tryz.ntmps57
 go_wp2_with fail
 refine ((uh HI) _).mono ?_
 rintro e w1 ⟨rfl,b1⟩;clear HI
 go_wp2
 go_ret
 exact⟨rfl,b1⟩
theorem zm2 {c:Int} (h:128≤c∨c = -1):puB c=false:=by
 rw[← Bool.not_eq_true];intro e
 have hm:c ∈ puL:=by
  unfold puB at e;exact List.elem_iff.1 e
 simp only[puL,List.mem_cons,List.mem_nil_iff,or_false] at hm;omega
theorem zga (c:Int) (w:World) (h:scP c∨c = -1):Calls Tryz.prog 57 #[.string ⟨#[33,36,38,40,41,58,61,64,91,93,123,124,125]⟩,.int .i32 c] w fun e w'=>e = .returned (.bool (puB c))∧Below w.heap.size w w':=by
 by_cases h1:c = -1
 ·subst h1
  rw[zm2 (.inr rfl)];exact zcn _ w znR
 ·have hs:scP c:=by rcases h with h | h;exact h;exact absurd h h1
  by_cases h2:c≤127
  ·refine (zb1 c w (by unfold scP at hs;omega) h2).mono ?_
   rintro e w1 ⟨rfl,rfl⟩;exact⟨rfl,Below.refl _ _⟩
  ·rw[zm2 (.inl (by omega))]
   by_cases hf:c=65533
   ·subst hf
    exact zcn _ w znS
   ·exact zcn _ w (fun W=>zpC c W hs (by omega) hf)
open ints (Hi uh hexV)
open mem (Row scP)
def codeZ (l:List Int):Int:=
 if l.length<6∨l.getD 0 0 ≠ 92∨l.getD 1 0 ≠ 117 then -1
 else if hexV (l.getD 2 0)<0∨hexV (l.getD 3 0)<0∨hexV (l.getD 4 0)<0∨hexV (l.getD 5 0)<0 then -1
 else ((hexV (l.getD 2 0) * 16+hexV (l.getD 3 0)) * 16+hexV (l.getD 4 0)) * 16+hexV (l.getD 5 0)
theorem zcs (c:Int):hexV c≤15:=by unfold hexV;split;omega;split;omega;split <;> omega
set_option maxHeartbeats 2000000 in
set_option maxRecDepth 4000 in
theorem zgZ (a:Option Addr) (n c:Nat) (l:List Int) (w:World) (h:Row .i32 w a n c l) (hn:n≤1099511627776) :
  Calls Tryz.prog 154 #[.slice a n c] w fun e w'=>e = .returned (.int .i32 (codeZ l))∧Below w.heap.size w w':=by
 have hl:=Hi h.len
 by_cases h6:n<6
 ·have hz:=Hi (show codeZ l = -1 from by unfold codeZ;rw[if_pos (.inl (by rw[h.len];exact h6))])
  have i6:(n:Int)<6:=by omega
  go_enter Tryz.func154,Tryz.ntmps154
  go_wp2_with fail
  go_ret
  exact⟨by rw[uh hz];rfl,Below.refl _ _⟩
 have i6:¬ (n:Int)<6:=by omega
 have i0:(0:Int)<(n:Int):=by omega
 have i1:(1:Int)<(n:Int):=by omega
 have hle:=h.le
 rcases h.at_ with h0 | ⟨b,off,rfl,hb,hc⟩
 ·omega
 have c0:=hc 0 (by omega)
 have c1:=hc 1 (by omega)
 have c2:=hc 2 (by omega)
 have c3:=hc 3 (by omega)
 have c4:=hc 4 (by omega)
 have c5:=hc 5 (by omega)
 have HZ0:=Hi (show codeZ l=(if l.length<6∨l.getD 0 0 ≠ 92∨l.getD 1 0 ≠ 117 then -1
  else if hexV (l.getD 2 0)<0∨hexV (l.getD 3 0)<0∨hexV (l.getD 4 0)<0∨hexV (l.getD 5 0)<0 then -1
  else ((hexV (l.getD 2 0) * 16+hexV (l.getD 3 0)) * 16+hexV (l.getD 4 0)) * 16+hexV (l.getD 5 0)) from rfl)
 obtain⟨x0,e0⟩:∃ x,x=l.getD 0 0:=⟨_,rfl⟩;obtain⟨x1,e1⟩:∃ x,x=l.getD 1 0:=⟨_,rfl⟩;obtain⟨x2,e2⟩:∃ x,x=l.getD 2 0:=⟨_,rfl⟩;obtain⟨x3,e3⟩:∃ x,x=l.getD 3 0:=⟨_,rfl⟩;obtain⟨x4,e4⟩:∃ x,x=l.getD 4 0:=⟨_,rfl⟩;obtain⟨x5,e5⟩:∃ x,x=l.getD 5 0:=⟨_,rfl⟩;rw[← e0] at c0;rw[← e1] at c1;rw[← e2] at c2;rw[← e3] at c3;rw[← e4] at c4;rw[← e5] at c5;rw[← e0,← e1,← e2,← e3,← e4,← e5] at HZ0
 have c0':w.cell? ⟨b,off,none⟩=some (.int .i32 x0):=c0;clear e0 e1 e2 e3 e4 e5 hc c0
 by_cases hx0:x0=92
 ·by_cases hx1:x1=117
  ·subst hx0 hx1
   have HZ:=Hi (show codeZ l=(if hexV x2<0∨hexV x3<0∨hexV x4<0∨hexV x5<0 then -1 else ((hexV x2 * 16+hexV x3) * 16+hexV x4) * 16+hexV x5) from by
    rw[uh HZ0,if_neg (fun e=>by rcases e with e | e | e;rw[uh hl] at e;omega;exact e rfl;exact e rfl)])
   obtain⟨h0,q0⟩:∃ h,h=hexV x2:=⟨_,rfl⟩;obtain⟨h1,q1⟩:∃ h,h=hexV x3:=⟨_,rfl⟩;obtain⟨h2,q2⟩:∃ h,h=hexV x4:=⟨_,rfl⟩;obtain⟨h3,q3⟩:∃ h,h=hexV x5:=⟨_,rfl⟩;rw[← q0,← q1,← q2,← q3] at HZ;have E0:=Hi q0;have E1:=Hi q1;have E2:=Hi q2;have E3:=Hi q3;clear q0 q1 q2 q3 HZ0;have k2:(2:Int)≤(c:Int):=by omega
   have k6:(6:Int)≤(c:Int):=by omega
   go_enter Tryz.func154,Tryz.ntmps154
   go_wp2_with fail
   refine wp_loop_rounds 5 ?_
   rw[rounds_succ]
   go_wp2_with fail
   refine (ints.zfz x2 _).mono ?_
   rintro e w2 ⟨rfl,rfl⟩;rw[← uh E0]
   by_cases g0:h0<0
   ·have hz:=Hi (show codeZ l = -1 from by rw[uh HZ,if_pos (by first | exact .inl g0 | exact .inr (.inl g0) | exact .inr (.inr (.inl g0)) | exact .inr (.inr (.inr g0)))])
    go_wp2_with fail
    go_ret
    exact⟨by rw[uh hz];rfl,Below.refl _ _⟩
   have b0:h0≤15:=by rw[uh E0];exact zcs _
   go_wp2_with fail
   rw[rounds_succ]
   go_wp2_with fail
   refine (ints.zfz x3 _).mono ?_
   rintro e w2 ⟨rfl,rfl⟩;rw[← uh E1]
   by_cases g1:h1<0
   ·have hz:=Hi (show codeZ l = -1 from by rw[uh HZ,if_pos (by first | exact .inl g1 | exact .inr (.inl g1) | exact .inr (.inr (.inl g1)) | exact .inr (.inr (.inr g1)))])
    go_wp2_with fail
    go_ret
    exact⟨by rw[uh hz];rfl,Below.refl _ _⟩
   have b1:h1≤15:=by rw[uh E1];exact zcs _
   go_wp2_with fail
   rw[rounds_succ]
   go_wp2_with fail
   refine (ints.zfz x4 _).mono ?_
   rintro e w2 ⟨rfl,rfl⟩;rw[← uh E2]
   by_cases g2:h2<0
   ·have hz:=Hi (show codeZ l = -1 from by rw[uh HZ,if_pos (by first | exact .inl g2 | exact .inr (.inl g2) | exact .inr (.inr (.inl g2)) | exact .inr (.inr (.inr g2)))])
    go_wp2_with fail
    go_ret
    exact⟨by rw[uh hz];rfl,Below.refl _ _⟩
   have b2:h2≤15:=by rw[uh E2];exact zcs _
   go_wp2_with fail
   rw[rounds_succ]
   go_wp2_with fail
   refine (ints.zfz x5 _).mono ?_
   rintro e w2 ⟨rfl,rfl⟩;rw[← uh E3]
   by_cases g3:h3<0
   ·have hz:=Hi (show codeZ l = -1 from by rw[uh HZ,if_pos (by first | exact .inl g3 | exact .inr (.inl g3) | exact .inr (.inr (.inl g3)) | exact .inr (.inr (.inr g3)))])
    go_wp2_with fail
    go_ret
    exact⟨by rw[uh hz];rfl,Below.refl _ _⟩
   have b3:h3≤15:=by rw[uh E3];exact zcs _
   go_wp2_with fail
   rw[rounds_succ]
   go_wp2_with fail
   have hz:=Hi (show codeZ l=(((h0 * 16+h1) * 16+h2) * 16+h3) from by rw[uh HZ,if_neg (by omega)])
   go_ret
   exact⟨by rw[uh hz];rfl,Below.refl _ _⟩
  ·have ne1:(x1 != 117)=true:=by simpa using hx1
   have hz:=Hi (show codeZ l = -1 from by rw[uh HZ0,if_pos (.inr (.inr hx1))])
   subst hx0;clear hx1
   go_enter Tryz.func154,Tryz.ntmps154
   go_wp2_with fail
   go_ret
   exact⟨by rw[uh hz];rfl,Below.refl _ _⟩
 ·have ne0:(x0 != 92)=true:=by simpa using hx0
  have hz:=Hi (show codeZ l = -1 from by rw[uh HZ0,if_pos (.inr (.inl hx0))])
  clear hx0
  go_enter Tryz.func154,Tryz.ntmps154
  go_wp2_with fail
  go_ret
  exact⟨by rw[uh hz];rfl,Below.refl _ _⟩
end Go.Proofs.YtifbkdicglcogaaGreat.lx
namespace Go.Proofs
open Go.Shelf
def Tryz.lays152_ren:Go.Shelf.Ren:=⟨fun | 152=>78 | 137=>92 | 119=>38 | 224=>93 | 225=>94 | 217=>123 | 266=>143 | n=>n,fun | 9=>9 | 21=>21 | 3=>3 | 4=>4 | 5=>5 | 0=>0 | 46=>157 | n=>n,fun | n=>n⟩
theorem Tryz.lays152:Go.Proofs.Lays.n152 Tryz.prog Tryz.lays152_ren:={
 mixed:=by kernel_rfl
 f119:=Tryz.func38.trans (congrArg some (by kernel_rfl))
 f137:=Tryz.func92.trans (congrArg some (by kernel_rfl))
 f152:=Tryz.func78.trans (congrArg some (by kernel_rfl))
 f217:=Tryz.func123.trans (congrArg some (by kernel_rfl))
 f224:=Tryz.func93.trans (congrArg some (by kernel_rfl))
 f225:=Tryz.func94.trans (congrArg some (by kernel_rfl))
 f266:=Tryz.func143.trans (congrArg some (by kernel_rfl))
 t0:=Tryz.underlying0
 a0:=Tryz.isAgg0
 z0:=Tryz.sizeOf0
 v0:=Tryz.zeroValue0
 t3:=Tryz.underlying3
 a3:=Tryz.isAgg3
 z3:=Tryz.sizeOf3
 v3:=Tryz.zeroValue3
 t4:=Tryz.underlying4
 a4:=Tryz.isAgg4
 z4:=Tryz.sizeOf4
 v4:=Tryz.zeroValue4
 t5:=Tryz.underlying5
 a5:=Tryz.isAgg5
 z5:=Tryz.sizeOf5
 v5:=Tryz.zeroValue5
 t9:=Tryz.underlying9
 a9:=Tryz.isAgg9
 z9:=Tryz.sizeOf9
 v9:=Tryz.zeroValue9
 t21:=Tryz.underlying21
 a21:=Tryz.isAgg21
 z21:=Tryz.sizeOf21
 v21:=Tryz.zeroValue21
 t46:=Tryz.underlying157
 a46:=Tryz.isAgg157
 z46:=Tryz.sizeOf157
 v46:=Tryz.zeroValue157 }
open Go.RowKit Go.Lib in
theorem Tryz.strings_IndexRune_ascii (s:ByteArray) (r:Int) (w:World) (h0:0≤r) (h1:r<128) :
  Calls Tryz.prog 78 #[.string s,.int .i32 r] w fun e w'=>e = .returned (.int .i64 (Lib.indexByte s.data.toList r.toNat.toUInt8))∧w'=w:=Any.strings_IndexRune_ascii Tryz.lays152 s r w h0 h1
end Go.Proofs
namespace Go.Proofs.YtifbkdicglcogaaGreat.lx
open Go.ChangeShapes Go.WideShapes Go.ChangeAt Go.RowKit
open mem
open ints (Hi uh)
theorem zef (k m:Nat) (W:World) (hk:k=2∨k=3∨k=4) (h1:128≤m) (h2:m<256) :
  Calls Tryz.prog 92 #[.string ((⟨#[34,92,98,102,110,114,116,47]⟩:ByteArray).extract k 8),.int .u8 (m:Int)] W fun e w'=>e = .returned (.int .i64 (-1))∧w'=W:=by
 have h:=Tryz.strings_IndexByte ((⟨#[34,92,98,102,110,114,116,47]⟩:ByteArray).extract k 8) (m:Int) W;rw[zhQ _ _ h1 h2 (by rcases hk with rfl | rfl | rfl <;> decide +kernel)] at h
 exact h
set_option maxHeartbeats 16000000 in
set_option maxRecDepth 100000 in
theorem znI (c:Int) (w:World) (hs:scP c) (h0:128≤c) (hf:¬ c=65533) :
  Calls Tryz.prog 78 #[.string ⟨#[34,92,98,102,110,114,116,47]⟩,.int .i32 c] w fun e w'=>e = .returned (.int .i64 (-1))∧Below w.heap.size w w':=by
 have V:=Hi (fun W=>zdp c W hs)
 have h1:c≤1114111:=by unfold scP at hs;omega
 obtain⟨z1,z2,z3⟩:=encode_facts c ((by obtain⟨n,rfl⟩:∃ n:Nat,c=n:=⟨c.toNat,by omega⟩;exact (zdo n).2 (by unfold scP at hs;omega))) h0
 have hcv:=fun W=>run_convert_int_string (P:=Tryz.prog) W 21 9 .i32 c (by rw[Tryz.underlying21];rfl) Tryz.underlying9
 obtain⟨R,hR⟩:∃ R,R=Utf8.encode c:=⟨_,rfl⟩;rw[← hR] at z1 z2 z3 hcv;clear hs hR;have hlt:R.size - 1<R.size:=by omega
 have z4:=z3 hlt;clear z3;have wr2:IntKind.i64.wrap 2=2:=by decide
 have wr3:IntKind.i64.wrap 3=3:=by decide
 have wr4:IntKind.i64.wrap 4=4:=by decide
 rcases (show R.size=2∨R.size=3∨R.size=4 by omega) with hz | hz | hz
 ·have hl1:1<R.size:=by omega
  have z5:128≤(R[1]'hl1).toNat:=by
   have e:∀ (j:Nat) (hj:j<R.size),j=1→(R[j]'hj).toNat=(R[1]'hl1).toNat:=by intro j hj e;subst e;rfl
   rw[← e _ hlt (by omega)];exact z4
  have hk2:=UInt8.toNat_lt (R[1]'hl1);have n1:(((⟨#[34,92,98,102,110,114,116,47]⟩:ByteArray)[1]'(by decide)).toNat:Int)=92:=rfl
  have IB:=fun (W:World)=>zef 2 _ W (by decide) z5 hk2
  obtain⟨x,hx⟩:∃ x,x=(R[1]'hl1).toNat:=⟨_,rfl⟩;rw[← hx] at z5 IB;have hx2:(R[1]'hl1).toNat=x:=hx.symm;have hne:¬ (92:Int)=(x:Int):=by omega
  clear hx z4 hlt hk2
  go_enter Tryz.func78,Tryz.ntmps78
  go_wp2_with fail
  refine (uh V _).mono ?_
  rintro e w1 ⟨rfl,rfl⟩
  go_wp2_with fail
  go_step3
  go_wp2_with fail
  refine wp_loop_rounds 1 ?_
  rw[rounds_succ]
  go_wp2_with fail
  go_step3
  go_wp2_with fail
  go_region
  go_wp2_with fail
  go_quiet ((refine Calls.mono (IB _) ?_;rintro e w' ⟨rfl,rfl⟩;exact⟨rfl,_,rfl⟩))
  go_wp2
  rw[Exit.noGoto_ret,zbo,zck,zbo,zck,Exit.noGoto_ret]
  go_ret
  exact⟨rfl,Go.below_drewN (Below.refl _ _) _⟩
 ·have hl2:2<R.size:=by omega
  have z5:128≤(R[2]'hl2).toNat:=by
   have e:∀ (j:Nat) (hj:j<R.size),j=2→(R[j]'hj).toNat=(R[2]'hl2).toNat:=by intro j hj e;subst e;rfl
   rw[← e _ hlt (by omega)];exact z4
  have hk2:=UInt8.toNat_lt (R[2]'hl2);have n1:(((⟨#[34,92,98,102,110,114,116,47]⟩:ByteArray)[2]'(by decide)).toNat:Int)=98:=rfl
  have IB:=fun (W:World)=>zef 3 _ W (by decide) z5 hk2
  obtain⟨x,hx⟩:∃ x,x=(R[2]'hl2).toNat:=⟨_,rfl⟩;rw[← hx] at z5 IB;have hx2:(R[2]'hl2).toNat=x:=hx.symm;have hne:¬ (98:Int)=(x:Int):=by omega
  clear hx z4 hlt hk2
  go_enter Tryz.func78,Tryz.ntmps78
  go_wp2_with fail
  refine (uh V _).mono ?_
  rintro e w1 ⟨rfl,rfl⟩
  go_wp2_with fail
  go_step3
  go_wp2_with fail
  refine wp_loop_rounds 1 ?_
  rw[rounds_succ]
  go_wp2_with fail
  go_step3
  go_wp2_with fail
  go_region
  go_wp2_with fail
  go_quiet ((refine Calls.mono (IB _) ?_;rintro e w' ⟨rfl,rfl⟩;exact⟨rfl,_,rfl⟩))
  go_wp2
  rw[Exit.noGoto_ret,zbo,zck,zbo,zck,Exit.noGoto_ret]
  go_ret
  exact⟨rfl,Go.below_drewN (Below.refl _ _) _⟩
 ·have hl3:3<R.size:=by omega
  have z5:128≤(R[3]'hl3).toNat:=by
   have e:∀ (j:Nat) (hj:j<R.size),j=3→(R[j]'hj).toNat=(R[3]'hl3).toNat:=by intro j hj e;subst e;rfl
   rw[← e _ hlt (by omega)];exact z4
  have hk2:=UInt8.toNat_lt (R[3]'hl3);have n1:(((⟨#[34,92,98,102,110,114,116,47]⟩:ByteArray)[3]'(by decide)).toNat:Int)=102:=rfl
  have IB:=fun (W:World)=>zef 4 _ W (by decide) z5 hk2
  obtain⟨x,hx⟩:∃ x,x=(R[3]'hl3).toNat:=⟨_,rfl⟩;rw[← hx] at z5 IB;have hx2:(R[3]'hl3).toNat=x:=hx.symm;have hne:¬ (102:Int)=(x:Int):=by omega
  clear hx z4 hlt hk2
  go_enter Tryz.func78,Tryz.ntmps78
  go_wp2_with fail
  refine (uh V _).mono ?_
  rintro e w1 ⟨rfl,rfl⟩
  go_wp2_with fail
  go_step3
  go_wp2_with fail
  refine wp_loop_rounds 1 ?_
  rw[rounds_succ]
  go_wp2_with fail
  go_step3
  go_wp2_with fail
  go_region
  go_wp2_with fail
  go_quiet ((refine Calls.mono (IB _) ?_;rintro e w' ⟨rfl,rfl⟩;exact⟨rfl,_,rfl⟩))
  go_wp2
  rw[Exit.noGoto_ret,zbo,zck,zbo,zck,Exit.noGoto_ret]
  go_ret
  exact⟨rfl,Go.below_drewN (Below.refl _ _) _⟩
theorem zjD (p:Nat) (h:p<8):∃ z:Nat,Utf8.decode ⟨#[34,92,98,102,110,114,116,47]⟩ p=(z,1)∧z<128:=by
 have e:∀ j:Fin 8,(Utf8.decode ⟨#[34,92,98,102,110,114,116,47]⟩ j.val).2=1∧(Utf8.decode ⟨#[34,92,98,102,110,114,116,47]⟩ j.val).1<128:=by decide +kernel
 have:=e ⟨p,h⟩;exact⟨_,Prod.ext rfl this.1,this.2⟩
set_option maxHeartbeats 4000000 in
set_option maxRecDepth 100000 in
theorem zlo (w:World) :
  Calls Tryz.prog 78 #[.string ⟨#[34,92,98,102,110,114,116,47]⟩,.int .i32 65533] w fun e w'=>e = .returned (.int .i64 (-1))∧Below w.heap.size w w':=by
 have hsz:(⟨#[34,92,98,102,110,114,116,47]⟩:ByteArray).size=8:=rfl;have hde:=zjD;obtain⟨s,hS⟩:∃ s,s=(⟨#[34,92,98,102,110,114,116,47]⟩:ByteArray):=⟨_,rfl⟩;rw[← hS] at hsz hde ⊢;have HD:=Hi hde;clear hS hde
 go_enter Tryz.func78,Tryz.ntmps78
 go_wp2
 go_loopw [5] (fun _ wr=>∃ pos:Nat,wr=w.iter s pos∧pos≤8) (fun _ wr=>8 - wr.iterPos w.heap.size)
 case atStart=>exact⟨0,rfl,by omega⟩
 case round =>
  obtain⟨pos,rfl,hpl⟩:=hrel
  by_cases hp:pos<8
  ·obtain⟨ch,hdec,hch⟩:=uh HD pos hp
   have hnx:∀ ty,(Instr.next (.pointer (some ⟨w.heap.size,0,none⟩)) true ty).run Tryz.prog (w.iter s pos) = .ok (.tuple #[.bool true,.int .i64 pos,.int .i32 (ch:Int)]) (w.iter s (pos+1)):=fun ty=>by
    have:=run_next_any (P:=Tryz.prog) w s pos ty (by omega)
    rw[hdec] at this;exact this
   have hne:¬ (ch:Int)=65533:=by omega
   have hb:((ch:Int) == 65533)=false:=by simp[hne]
   clear hdec
   go_wp2
   refine⟨⟨pos+1,rfl,by omega⟩,?_⟩
   simp;omega
  ·have hnx:∀ ty,(Instr.next (.pointer (some ⟨w.heap.size,0,none⟩)) true ty).run Tryz.prog (w.iter s pos) = .ok (.tuple #[.bool false]) (w.iter s pos):=fun ty=>run_next_end (P:=Tryz.prog) w s pos ty (by omega)
   go_wp2
   go_ret
   exact⟨rfl,ba⟩
def idxE (c:Int):Int:=if c=34 then 0 else if c=92 then 1 else if c=98 then 2 else if c=102 then 3 else if c=110 then 4 else if c=114 then 5 else if c=116 then 6 else if c=47 then 7 else -1
theorem znJ (c:Int) (w:World) (hs:scP c) :
  Calls Tryz.prog 78 #[.string ⟨#[34,92,98,102,110,114,116,47]⟩,.int .i32 c] w fun e w'=>e = .returned (.int .i64 (idxE c))∧Below w.heap.size w w':=by
 by_cases h0:c<128
 ·have hc0:0≤c:=by unfold scP at hs;omega
  have e:∀ j:Fin 128,Lib.indexByte (⟨#[34,92,98,102,110,114,116,47]⟩:ByteArray).data.toList ((j.val:Int)).toNat.toUInt8=idxE (j.val:Int):=by decide +kernel
  obtain⟨n,rfl⟩:∃ n:Nat,c=n:=⟨c.toNat,by omega⟩
  refine (Tryz.strings_IndexRune_ascii _ _ w hc0 h0).mono ?_
  rintro e1 w1 ⟨rfl,rfl⟩;have:=e ⟨n,by omega⟩
  simp only at this;rw[this];exact⟨rfl,Below.refl _ _⟩
 ·have e:idxE c = -1:=by
   unfold idxE;rw[if_neg (by omega),if_neg (by omega),if_neg (by omega),if_neg (by omega),if_neg (by omega),if_neg (by omega),if_neg (by omega),if_neg (by omega)]
  rw[e]
  by_cases hf:c=65533
  ·subst hf
   exact zlo w
  ·exact znI c w hs (by omega) hf
open ints (Hi uh hexV)
theorem zla (l:List Int):codeZ l≤65535:=by
 unfold codeZ;have h2:=zcs (l.getD 2 0);have h3:=zcs (l.getD 3 0);have h4:=zcs (l.getD 4 0);have h5:=zcs (l.getD 5 0)
 split
 ·omega
 split <;> omega
theorem zd6 (l:List Int) (h:0≤codeZ l):6≤l.length:=by
 by_cases h6:l.length<6
 ·unfold codeZ at h
  rw[if_pos (.inl h6)] at h;omega
 ·omega
theorem zjo (l:List Int):-1≤codeZ l:=by
 unfold codeZ
 split
 ·omega
 split <;> omega
def cdZ (l:List Int):Int × Nat:=
 if codeZ l<0 then (0,0)
 else if ¬ (55296≤codeZ l∧codeZ l≤57343) then (codeZ l,6)
 else if 55296≤codeZ l∧codeZ l≤56319∧56320≤codeZ (l.drop 6)∧codeZ (l.drop 6)≤57343 then (65536+(codeZ l - 55296) * 1024+(codeZ (l.drop 6) - 56320),12)
 else (0,0)
theorem zfP {k:IntKind} {w:World} {b off n c:Nat} {l:List Int} (h:Row k w (some ⟨b,off,none⟩) n c l) (j:Nat) (hj:j≤n):Row k w (some ⟨b,off+j,none⟩) (n - j) (c - j) (l.drop j):=by
 have hl:=h.len;have hle:=h.le;refine⟨by rw[List.length_drop,hl],by omega,(fun e=>by cases e),?_⟩
 rcases h.at_ with h0 | ⟨b',off',he,hb,hc⟩
 ·exact .inl (by omega)
 ·simp only[Option.some.injEq,Addr.mk.injEq] at he
  obtain⟨rfl,rfl,_⟩:=he;refine .inr ⟨b,off+j,rfl,hb,fun i hi=>?_⟩
  have:=hc (j+i) (by omega)
  rw[show off+j+i=off+(j+i) from by omega,this]
  simp[List.getD]
set_option maxHeartbeats 2000000 in
set_option maxRecDepth 4000 in
theorem zlb (a:Option Addr) (n c:Nat) (l:List Int) (w:World) (h:Row .i32 w a n c l) (hn:n≤1099511627776) :
  Calls Tryz.prog 146 #[.slice a n c] w fun e w'=>e = .returned (.tuple #[.int .i32 (cdZ l).1,.int .i64 ((cdZ l).2:Int)])∧Below w.heap.size w w':=by
 have hl:=Hi h.len;have H:=Hi (zgZ a n c l w h hn)
 by_cases h0:codeZ l<0
 ·have hz:=Hi (show cdZ l=(0,0) from by unfold cdZ;rw[if_pos h0])
  go_enter Tryz.func146,Tryz.ntmps146
  go_wp2_with fail
  refine (uh H).mono ?_
  rintro e w1 ⟨rfl,hb1⟩
  go_wp2_with fail
  go_ret2
  exact⟨by rw[uh hz];rfl,hb1⟩
 have h6:6≤n:=by rw[← h.len];exact zd6 l (by omega)
 have hle:=h.le
 obtain⟨b,off,rfl⟩:∃ b off,a=some ⟨b,off,none⟩:=by
  rcases h.at_ with h1 | ⟨b,off,e,_⟩
  ·omega
  ·exact⟨b,off,e⟩
 have hle2:=zla l
 by_cases h1:55296≤codeZ l∧codeZ l≤57343
 ·obtain⟨h1,h2⟩:=h1
  have V:=Hi (fun W=>zfX (codeZ l) W (by unfold scP;omega))
  have H2:=Hi (fun W (hR:Row .i32 W (some ⟨b,off+6,none⟩) (n - 6) (c - 6) (l.drop 6))=>zgZ _ _ _ _ W hR (by omega))
  have HR:=Hi (zfP h 6 h6);have k6:(6:Int)≤(c:Int):=by omega
  have k6n:(6:Int)≤(n:Int):=by omega
  have p6:=zjo (l.drop 6);have HZ:=Hi (fun (W:World) (e:c=6)=>show Row .i32 W (some ⟨b,off,none⟩) (n - 6) 0 (l.drop 6) from ⟨by rw[List.length_drop,uh hl],by omega,(fun e=>by cases e),.inl (by omega)⟩)
  have HY:=Hi (fun (W:World) (hR:Row .i32 W (some ⟨b,off,none⟩) (n - 6) 0 (l.drop 6))=>zgZ _ _ _ _ W hR (by omega))
  by_cases h3:codeZ l≤56319∧56320≤codeZ (l.drop 6)∧codeZ (l.drop 6)≤57343
  ·have hz:=Hi (show cdZ l=(65536+(codeZ l - 55296) * 1024+(codeZ (l.drop 6) - 56320),12) from by unfold cdZ;rw[if_neg h0,if_neg (fun e=>e ⟨h1,h2⟩),if_pos ⟨h1,h3⟩])
   have J:=Hi (fun W=>ints.zlD _ _ W h1 h3.1 h3.2.1 h3.2.2)
   go_enter Tryz.func146,Tryz.ntmps146
   go_wp2_with fail
   refine (uh H).mono ?_
   rintro e w1 ⟨rfl,hb1⟩
   go_wp2_with fail
   refine (uh V _).mono ?_
   rintro e w2 ⟨rfl,rfl⟩
   go_wp2_with fail
   ·refine (uh HY _ (uh HZ _ (by omega))).mono ?_
    rintro e w3 ⟨rfl,hb3⟩
    go_wp2_with fail
    refine (uh J _).mono ?_
    rintro e w4 ⟨rfl,rfl⟩
    go_wp2_with fail
    go_ret2
    exact⟨by rw[uh hz];rfl,hb1.trans (hb3.mono hb1.size)⟩
   ·refine (uh H2 _ ((uh HR).below hb1)).mono ?_
    rintro e w3 ⟨rfl,hb3⟩
    go_wp2_with fail
    refine (uh J _).mono ?_
    rintro e w4 ⟨rfl,rfl⟩
    go_wp2_with fail
    go_ret2
    exact⟨by rw[uh hz];rfl,hb1.trans (hb3.mono hb1.size)⟩
  ·have hz:=Hi (show cdZ l=(0,0) from by unfold cdZ;rw[if_neg h0,if_neg (fun e=>e ⟨h1,h2⟩),if_neg (fun e=>h3 e.2)])
   have J:=Hi (fun W=>ints.zn2 (codeZ l) (codeZ (l.drop 6)) W (fun e=>h3 e.2))
   go_enter Tryz.func146,Tryz.ntmps146
   go_wp2_with fail
   refine (uh H).mono ?_
   rintro e w1 ⟨rfl,hb1⟩
   go_wp2_with fail
   refine (uh V _).mono ?_
   rintro e w2 ⟨rfl,rfl⟩
   go_wp2_with fail
   ·refine (uh HY _ (uh HZ _ (by omega))).mono ?_
    rintro e w3 ⟨rfl,hb3⟩
    go_wp2_with fail
    refine (uh J _).mono ?_
    rintro e w4 ⟨rfl,rfl⟩
    go_wp2_with fail
    go_ret2
    exact⟨by rw[uh hz];rfl,hb1.trans (hb3.mono hb1.size)⟩
   ·refine (uh H2 _ ((uh HR).below hb1)).mono ?_
    rintro e w3 ⟨rfl,hb3⟩
    go_wp2_with fail
    refine (uh J _).mono ?_
    rintro e w4 ⟨rfl,rfl⟩
    go_wp2_with fail
    go_ret2
    exact⟨by rw[uh hz];rfl,hb1.trans (hb3.mono hb1.size)⟩
 ·have V:=Hi (fun W=>zdp (codeZ l) W (by unfold scP;omega))
  have hz:=Hi (show cdZ l=(codeZ l,6) from by unfold cdZ;rw[if_neg h0,if_pos h1])
  go_enter Tryz.func146,Tryz.ntmps146
  go_wp2_with fail
  refine (uh H).mono ?_
  rintro e w1 ⟨rfl,hb1⟩
  go_wp2_with fail
  refine (uh V _).mono ?_
  rintro e w2 ⟨rfl,rfl⟩
  go_wp2_with fail
  go_ret2
  exact⟨by rw[uh hz];rfl,hb1⟩
def meanZ (c:Int):Int:=if c=98 then 8 else if c=102 then 12 else if c=110 then 10 else if c=114 then 13 else if c=116 then 9 else c
def escZ (l:List Int):Int × Nat:=
 if l.length<2 then (0,0)
 else if l.getD 1 0=117 then cdZ l
 else if idxE (l.getD 1 0)<0 then (0,0)
 else (meanZ (l.getD 1 0),2)
theorem ziM (c:Int) (h:¬ idxE c<0):c=34∨c=92∨c=98∨c=102∨c=110∨c=114∨c=116∨c=47:=by
 unfold idxE at h
 split at h;omega
 split at h;omega
 split at h;omega
 split at h;omega
 split at h;omega
 split at h;omega
 split at h;omega
 split at h;omega
 omega
set_option maxHeartbeats 2000000 in
set_option maxRecDepth 4000 in
theorem zjE (a:Option Addr) (n c:Nat) (l:List Int) (w:World) (h:Row .i32 w a n c l) (hn:n≤1099511627776) (hs:∀ x ∈ l,scP x) :
  Calls Tryz.prog 130 #[.slice a n c] w fun e w'=>e = .returned (.tuple #[.int .i32 (escZ l).1,.int .i64 ((escZ l).2:Int)])∧Below w.heap.size w w':=by
 have hl:=Hi h.len;have HS:=Hi hs;clear hs
 by_cases h2:n<2
 ·have hz:=Hi (show escZ l=(0,0) from by unfold escZ;rw[if_pos (by rw[uh hl];exact h2)])
  have i2:(n:Int)<2:=by omega
  go_enter Tryz.func130,Tryz.ntmps130
  go_wp2_with fail
  go_ret2
  exact⟨by rw[uh hz];rfl,Below.refl _ _⟩
 have i2:¬ (n:Int)<2:=by omega
 have i1:(1:Int)<(n:Int):=by omega
 have hle:=h.le
 rcases h.at_ with h0 | ⟨b,off,rfl,hb,hc⟩
 ·omega
 have hsc:=Hi (uh HS (l.getD 1 0) (by
  have hll:l.length=n:=uh hl;have h1:1<l.length:=by omega
  have e:l.getD 1 0=l[1]:=by simp[List.getD,h1]
  rw[e]
  exact List.getElem_mem _))
 have c1:=hc 1 (by omega)
 have HZ:=Hi (show escZ l=(if l.getD 1 0=117 then cdZ l else if idxE (l.getD 1 0)<0 then (0,0) else (meanZ (l.getD 1 0),2)) from by unfold escZ;rw[if_neg (by rw[uh hl];exact h2)])
 have HC:=Hi (zlb _ n c l w h hn);obtain⟨x,hx⟩:∃ x,x=l.getD 1 0:=⟨_,rfl⟩;rw[← hx] at c1 HZ hsc;clear hx hc
 by_cases hu:x=117
 ·subst hu
  have hz:=Hi (show escZ l=cdZ l from by rw[uh HZ,if_pos rfl])
  clear HZ
  go_enter Tryz.func130,Tryz.ntmps130
  go_wp2_with fail
  refine (uh HC).mono ?_
  rintro e w1 ⟨rfl,hb1⟩
  go_wp2_with fail
  go_ret2
  exact⟨by rw[uh hz];rfl,hb1⟩
 have HI:=Hi (znJ x w (uh hsc))
 by_cases hi:idxE x<0
 ·obtain⟨y,hy⟩:∃ y,y=idxE x:=⟨_,rfl⟩
  have hz:=Hi (show escZ l=(0,0) from by rw[uh HZ,if_neg hu,if_pos hi])
  rw[← hy] at HI hi;clear hy HZ
  go_enter Tryz.func130,Tryz.ntmps130
  go_wp2_with fail
  refine (uh HI).mono ?_
  rintro e w1 ⟨rfl,hb1⟩
  go_wp2_with fail
  go_ret2
  exact⟨by rw[uh hz];rfl,hb1⟩
 have hz:=Hi (show escZ l=(meanZ x,2) from by rw[uh HZ,if_neg hu,if_neg hi])
 clear HZ;have n0:(((⟨#[34,92,8,12,10,13,9,47]⟩:ByteArray)[0]'(by decide)).toNat:Int)=34:=rfl
 have n1:(((⟨#[34,92,8,12,10,13,9,47]⟩:ByteArray)[1]'(by decide)).toNat:Int)=92:=rfl
 have n2:(((⟨#[34,92,8,12,10,13,9,47]⟩:ByteArray)[2]'(by decide)).toNat:Int)=8:=rfl
 have n3:(((⟨#[34,92,8,12,10,13,9,47]⟩:ByteArray)[3]'(by decide)).toNat:Int)=12:=rfl
 have n4:(((⟨#[34,92,8,12,10,13,9,47]⟩:ByteArray)[4]'(by decide)).toNat:Int)=10:=rfl
 have n5:(((⟨#[34,92,8,12,10,13,9,47]⟩:ByteArray)[5]'(by decide)).toNat:Int)=13:=rfl
 have n6:(((⟨#[34,92,8,12,10,13,9,47]⟩:ByteArray)[6]'(by decide)).toNat:Int)=9:=rfl
 have n7:(((⟨#[34,92,8,12,10,13,9,47]⟩:ByteArray)[7]'(by decide)).toNat:Int)=47:=rfl
 rcases ziM x hi with rfl | rfl | rfl | rfl | rfl | rfl | rfl | rfl
 ·rw[show idxE 34=0 from rfl] at HI
  clear hi hu
  go_enter Tryz.func130,Tryz.ntmps130
  go_wp2_with fail
  refine (uh HI).mono ?_
  rintro e w1 ⟨rfl,hb1⟩
  go_wp2_with fail
  go_ret2
  exact⟨by rw[uh hz];rfl,hb1⟩
 ·rw[show idxE 92=1 from rfl] at HI
  clear hi hu
  go_enter Tryz.func130,Tryz.ntmps130
  go_wp2_with fail
  refine (uh HI).mono ?_
  rintro e w1 ⟨rfl,hb1⟩
  go_wp2_with fail
  go_ret2
  exact⟨by rw[uh hz];rfl,hb1⟩
 ·rw[show idxE 98=2 from rfl] at HI
  clear hi hu
  go_enter Tryz.func130,Tryz.ntmps130
  go_wp2_with fail
  refine (uh HI).mono ?_
  rintro e w1 ⟨rfl,hb1⟩
  go_wp2_with fail
  go_ret2
  exact⟨by rw[uh hz];rfl,hb1⟩
 ·rw[show idxE 102=3 from rfl] at HI
  clear hi hu
  go_enter Tryz.func130,Tryz.ntmps130
  go_wp2_with fail
  refine (uh HI).mono ?_
  rintro e w1 ⟨rfl,hb1⟩
  go_wp2_with fail
  go_ret2
  exact⟨by rw[uh hz];rfl,hb1⟩
 ·rw[show idxE 110=4 from rfl] at HI
  clear hi hu
  go_enter Tryz.func130,Tryz.ntmps130
  go_wp2_with fail
  refine (uh HI).mono ?_
  rintro e w1 ⟨rfl,hb1⟩
  go_wp2_with fail
  go_ret2
  exact⟨by rw[uh hz];rfl,hb1⟩
 ·rw[show idxE 114=5 from rfl] at HI
  clear hi hu
  go_enter Tryz.func130,Tryz.ntmps130
  go_wp2_with fail
  refine (uh HI).mono ?_
  rintro e w1 ⟨rfl,hb1⟩
  go_wp2_with fail
  go_ret2
  exact⟨by rw[uh hz];rfl,hb1⟩
 ·rw[show idxE 116=6 from rfl] at HI
  clear hi hu
  go_enter Tryz.func130,Tryz.ntmps130
  go_wp2_with fail
  refine (uh HI).mono ?_
  rintro e w1 ⟨rfl,hb1⟩
  go_wp2_with fail
  go_ret2
  exact⟨by rw[uh hz];rfl,hb1⟩
 ·rw[show idxE 47=7 from rfl] at HI
  clear hi hu
  go_enter Tryz.func130,Tryz.ntmps130
  go_wp2_with fail
  refine (uh HI).mono ?_
  rintro e w1 ⟨rfl,hb1⟩
  go_wp2_with fail
  go_ret2
  exact⟨by rw[uh hz];rfl,hb1⟩
def pceZ (l:List Int):Int × Nat:=
 if l.getD 0 0=92 then escZ l
 else if l.getD 0 0=34∨l.getD 0 0=10∨l.getD 0 0=13∨soB (l.getD 0 0)=false then (0,0)
 else (l.getD 0 0,1)
set_option maxHeartbeats 2000000 in
set_option maxRecDepth 4000 in
theorem zlT (a:Option Addr) (n c:Nat) (l:List Int) (w:World) (h:Row .i32 w a n c l) (h0:0<n) (hn:n≤1099511627776) (hs:∀ x ∈ l,scP x) :
  Calls Tryz.prog 104 #[.slice a n c] w fun e w'=>e = .returned (.tuple #[.int .i32 (pceZ l).1,.int .i64 ((pceZ l).2:Int)])∧Below w.heap.size w w':=by
 have hl:=Hi h.len;have HE:=Hi (zjE a n c l w h hn hs);clear hs;have i0:(0:Int)<(n:Int):=by omega
 have hle:=h.le
 rcases h.at_ with h1 | ⟨b,off,rfl,hb,hc⟩
 ·omega
 have c0:=hc 0 h0;have HZ:=Hi (show pceZ l=(if l.getD 0 0=92 then escZ l else if l.getD 0 0=34∨l.getD 0 0=10∨l.getD 0 0=13∨soB (l.getD 0 0)=false then (0,0) else (l.getD 0 0,1)) from rfl)
 obtain⟨x,hx⟩:∃ x,x=l.getD 0 0:=⟨_,rfl⟩;rw[← hx] at c0 HZ;have c0':w.cell? ⟨b,off,none⟩=some (.int .i32 x):=c0;clear hx hc c0
 by_cases hu:x=92
 ·subst hu
  have hz:=Hi (show pceZ l=escZ l from by rw[uh HZ,if_pos rfl])
  clear HZ
  go_enter Tryz.func104,Tryz.ntmps104
  go_wp2_with fail
  refine (uh HE).mono ?_
  rintro e w1 ⟨rfl,hb1⟩
  go_wp2_with fail
  go_ret2
  exact⟨by rw[uh hz];rfl,hb1⟩
 by_cases hq:x=34∨x=10∨x=13
 ·have hz:=Hi (show pceZ l=(0,0) from by rw[uh HZ,if_neg hu,if_pos (by rcases hq with h | h | h;exact .inl h;exact .inr (.inl h);exact .inr (.inr (.inl h)))])
  clear HZ
  rcases hq with rfl | rfl | rfl
  ·go_enter Tryz.func104,Tryz.ntmps104
   go_wp2_with fail
   go_ret2
   exact⟨by rw[uh hz];rfl,Below.refl _ _⟩
  ·go_enter Tryz.func104,Tryz.ntmps104
   go_wp2_with fail
   go_ret2
   exact⟨by rw[uh hz];rfl,Below.refl _ _⟩
  ·go_enter Tryz.func104,Tryz.ntmps104
   go_wp2_with fail
   go_ret2
   exact⟨by rw[uh hz];rfl,Below.refl _ _⟩
 have q1:¬ x=34:=fun e=>hq (.inl e)
 have q2:¬ x=10:=fun e=>hq (.inr (.inl e))
 have q3:¬ x=13:=fun e=>hq (.inr (.inr e))
 have S:=Hi (fun W=>zbj x W)
 have HZ2:=Hi (show pceZ l=(if soB x=false then (0,0) else (x,1)) from by
  rw[uh HZ,if_neg hu]
  by_cases hs:soB x=false
  ·rw[if_pos (.inr (.inr (.inr hs))),if_pos hs]
  ·rw[if_neg (fun e=>by rcases e with e | e | e | e;exact q1 e;exact q2 e;exact q3 e;exact hs e),if_neg hs])
 clear HZ hq;have g1:(x == 34)=false:=by simp[q1]
 have g2:(x == 10)=false:=by simp[q2]
 have g3:(x == 13)=false:=by simp[q3]
 cases hs:soB x with
 | true =>
  rw[hs] at S HZ2
  go_enter Tryz.func104,Tryz.ntmps104
  go_wp2_with fail
  refine (uh S _).mono ?_
  rintro e w1 ⟨rfl,rfl⟩
  go_wp2_with fail
  go_ret2
  exact⟨by rw[uh HZ2];rfl,Below.refl _ _⟩
 | false =>
  rw[hs] at S HZ2
  go_enter Tryz.func104,Tryz.ntmps104
  go_wp2_with fail
  refine (uh S _).mono ?_
  rintro e w1 ⟨rfl,rfl⟩
  go_wp2_with fail
  go_ret2
  exact⟨by rw[uh HZ2];rfl,Below.refl _ _⟩
end Go.Proofs.YtifbkdicglcogaaGreat.lx
