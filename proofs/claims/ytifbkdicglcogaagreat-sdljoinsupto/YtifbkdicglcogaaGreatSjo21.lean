import Derived.Test.YtifbkdicglcogaaGreatSjo20
set_option linter.unusedVariables false
set_option linter.unusedSimpArgs false
namespace Go.Proofs.YtifbkdicglcogaaGreat.cu
open Go.ChangeShapes Go.WideShapes Go.ChangeAt Go.RowKit
open ints (Hi uh)
open dt (Dt Kp RowAt Ow Grow OwIn)
open mem (Row)
set_option maxHeartbeats 8000000 in
set_option maxRecDepth 4000 in
theorem zhb (l l':List Dt) (h:EqLs (EqN true) l l'):SmLs 40 true 3 l l':=by
 intro w a a' c c' F G hl hl' hF hG hc hc' hm hm';obtain⟨hlen,hel⟩:=h;have HEL:=Hi hel;have HL:=Hi hl;have HL':=Hi hl';have HF:=Hi hF;have HG:=Hi hG;obtain⟨n,hn⟩:∃ n,n=l.length:=⟨_,rfl⟩;have hn':n=l'.length:=hn.trans hlen;rw[← hn] at hc ⊢;rw[← hn'] at hc' ⊢;have Hn:=Hi (an hn hn');clear hel hl hl' hF hG hn hn' hlen;unfold maxLen at hm hm'
 go_enter Tryz.func40,Tryz.ntmps40
 go_wp2_with fail
 go_loopw [7] (fun i wr=>∃ j:Nat,j≤n∧i = .int .i64 j∧Below w.heap.size w wr) (fun i _=>n - (intOf i).toNat)
 case atStart=>exact⟨0,Nat.zero_le _,rfl,Below.refl _ _⟩
 case round =>
  obtain⟨j,hj,rfl,hI⟩:=hrel
  by_cases hlt:j<n
  ·have ji:(j:Int)<(n:Int):=by omega
   have hlt1:j<l.length:=by have:=uh Hn;omega
   have hlt2:j<l'.length:=by have:=uh Hn;omega
   obtain⟨p,off,rfl,hpF,hget⟩:=(uh HL).resolve_left (fun h0=>by rw[h0] at hlt1;exact absurd hlt1 (Nat.not_lt_zero _))
   obtain⟨p',off',rfl,hpG,hget'⟩:=(uh HL').resolve_left (fun h0=>by rw[h0] at hlt2;exact absurd hlt2 (Nat.not_lt_zero _))
   obtain⟨ds,G1,hrow,hdl,hod,hGF⟩:=hget j _ (List.getElem?_eq_getElem hlt1)
   obtain⟨ds',G2,hrow',hdl',hod',hGG⟩:=hget' j _ (List.getElem?_eq_getElem hlt2)
   obtain⟨⟨nm,x1,y1⟩,⟨nm',x2,y2⟩,hx,hy,hnm,hxy⟩:=(uh HEL) j _ _ (List.getElem?_eq_getElem hlt1) (List.getElem?_eq_getElem hlt2)
   have hnm:nm=nm':=hnm;subst hnm;rw[hx] at hod;rw[hy] at hod';have q1:ds=[.string nm,.int .i64 x1,.int .i64 y1]:=zdg hod;subst q1;have q2:ds'=[.string nm,.int .i64 x2,.int .i64 y2]:=zdg hod';subst q2;obtain⟨rfl,rfl⟩:x1=x2∧y1=y2:=hxy rfl;have hplt:=(uh HF) p hpF;have hplt':=(uh HG) p' hpG;have hr:=fun (q:Nat) (u:Value) hu=>(hI.cell (p:=⟨p,off+j * 3+q,none⟩) hplt).trans (hrow q u hu)
   have hr':=fun (q:Nat) (u:Value) hu=>(hI.cell (p:=⟨p',off'+j * 3+q,none⟩) hplt').trans (hrow' q u hu)
   have r0:wr.cell? ⟨p,off+j * 3,none⟩=some (.string nm):=hr 0 _ rfl;have r1:wr.cell? ⟨p,off+j * 3+1,none⟩=some (.int .i64 x1):=hr 1 _ rfl;have r2:wr.cell? ⟨p,off+j * 3+2,none⟩=some (.int .i64 y1):=hr 2 _ rfl;have s0:wr.cell? ⟨p',off'+j * 3,none⟩=some (.string nm):=hr' 0 _ rfl;have s1:wr.cell? ⟨p',off'+j * 3+1,none⟩=some (.int .i64 x1):=hr' 1 _ rfl
   have s2:wr.cell? ⟨p',off'+j * 3+2,none⟩=some (.int .i64 y1):=hr' 2 _ rfl;have hq1:p<wr.heap.size:=Nat.lt_of_lt_of_le hplt hI.size;have hq2:p'<wr.heap.size:=Nat.lt_of_lt_of_le hplt' hI.size;clear hr hr' hrow hrow' hod hod' hx hy hdl hdl' hget hget' hGF hGG
   go_wp2_with fail
   go_quiet (fail)
   obtain⟨V0,hV0⟩:∃ V0,V0=wr.drewN nq:=⟨_,rfl⟩;have hS0:Below wr.heap.size wr V0:=by rw[hV0];exact Go.below_drewN (Below.refl _ _) nq
   rw[← hV0];clear hV0
   go_wp2_with fail
   go_roundw
   case rel=>exact⟨j+1,by omega,by go_num,hI.trans (hS0.mono hI.size)⟩
   case measure=>first | (simp[intOf];omega) | simp[intOf]
  ·have ji:¬ (j:Int)<(n:Int):=by omega
   have hI9:=Hi hI;clear hlt
   go_wp2_with fail
   go_ret
   exact⟨rfl,uh hI9⟩
set_option maxHeartbeats 8000000 in
set_option maxRecDepth 4000 in
theorem zou (l l':List Dt) (h:EqLs (EqRt true) l l'):SmLs 44 true 4 l l':=by
 intro w a a' c c' F G hl hl' hF hG hc hc' hm hm';obtain⟨hlen,hel⟩:=h;have HEL:=Hi hel;have HL:=Hi hl;have HL':=Hi hl';have HF:=Hi hF;have HG:=Hi hG;obtain⟨n,hn⟩:∃ n,n=l.length:=⟨_,rfl⟩;have hn':n=l'.length:=hn.trans hlen;rw[← hn] at hc ⊢;rw[← hn'] at hc' ⊢;have Hn:=Hi (an hn hn');clear hel hl hl' hF hG hn hn' hlen;unfold maxLen at hm hm'
 go_enter Tryz.func44,Tryz.ntmps44
 go_wp2_with fail
 go_loopw [7] (fun i wr=>∃ j:Nat,j≤n∧i = .int .i64 j∧Below w.heap.size w wr) (fun i _=>n - (intOf i).toNat)
 case atStart=>exact⟨0,Nat.zero_le _,rfl,Below.refl _ _⟩
 case round =>
  obtain⟨j,hj,rfl,hI⟩:=hrel
  by_cases hlt:j<n
  ·have ji:(j:Int)<(n:Int):=by omega
   have hlt1:j<l.length:=by have:=uh Hn;omega
   have hlt2:j<l'.length:=by have:=uh Hn;omega
   obtain⟨p,off,rfl,hpF,hget⟩:=(uh HL).resolve_left (fun h0=>by rw[h0] at hlt1;exact absurd hlt1 (Nat.not_lt_zero _))
   obtain⟨p',off',rfl,hpG,hget'⟩:=(uh HL').resolve_left (fun h0=>by rw[h0] at hlt2;exact absurd hlt2 (Nat.not_lt_zero _))
   obtain⟨ds,G1,hrow,hdl,hod,hGF⟩:=hget j _ (List.getElem?_eq_getElem hlt1)
   obtain⟨ds',G2,hrow',hdl',hod',hGG⟩:=hget' j _ (List.getElem?_eq_getElem hlt2)
   obtain⟨k,ty,x1,y1,x2,y2,hx,hy,hxy⟩:=(uh HEL) j _ _ (List.getElem?_eq_getElem hlt1) (List.getElem?_eq_getElem hlt2)
   rw[hx] at hod;rw[hy] at hod';have q1:ds=[.int .i64 k,.string ty,.int .i64 x1,.int .i64 y1]:=zdi hod;subst q1;have q2:ds'=[.int .i64 k,.string ty,.int .i64 x2,.int .i64 y2]:=zdi hod';subst q2;obtain⟨rfl,rfl⟩:x1=x2∧y1=y2:=hxy rfl;have hplt:=(uh HF) p hpF;have hplt':=(uh HG) p' hpG;have hr:=fun (q:Nat) (u:Value) hu=>(hI.cell (p:=⟨p,off+j * 4+q,none⟩) hplt).trans (hrow q u hu)
   have hr':=fun (q:Nat) (u:Value) hu=>(hI.cell (p:=⟨p',off'+j * 4+q,none⟩) hplt').trans (hrow' q u hu)
   have r0:wr.cell? ⟨p,off+j * 4,none⟩=some (.int .i64 k):=hr 0 _ rfl;have r1:wr.cell? ⟨p,off+j * 4+1,none⟩=some (.string ty):=hr 1 _ rfl;have r2:wr.cell? ⟨p,off+j * 4+2,none⟩=some (.int .i64 x1):=hr 2 _ rfl;have r3:wr.cell? ⟨p,off+j * 4+3,none⟩=some (.int .i64 y1):=hr 3 _ rfl;have s0:wr.cell? ⟨p',off'+j * 4,none⟩=some (.int .i64 k):=hr' 0 _ rfl
   have s1:wr.cell? ⟨p',off'+j * 4+1,none⟩=some (.string ty):=hr' 1 _ rfl;have s2:wr.cell? ⟨p',off'+j * 4+2,none⟩=some (.int .i64 x1):=hr' 2 _ rfl;have s3:wr.cell? ⟨p',off'+j * 4+3,none⟩=some (.int .i64 y1):=hr' 3 _ rfl;have hq1:p<wr.heap.size:=Nat.lt_of_lt_of_le hplt hI.size;have hq2:p'<wr.heap.size:=Nat.lt_of_lt_of_le hplt' hI.size;clear hr hr' hrow hrow' hod hod' hx hy hdl hdl' hget hget' hGF hGG
   go_wp2_with fail
   go_quiet (fail)
   obtain⟨V0,hV0⟩:∃ V0,V0=wr.drewN nq:=⟨_,rfl⟩;have hS0:Below wr.heap.size wr V0:=by rw[hV0];exact Go.below_drewN (Below.refl _ _) nq
   rw[← hV0];clear hV0
   go_wp2_with fail
   go_roundw
   case rel=>exact⟨j+1,by omega,by go_num,hI.trans (hS0.mono hI.size)⟩
   case measure=>first | (simp[intOf];omega) | simp[intOf]
  ·have ji:¬ (j:Int)<(n:Int):=by omega
   have hI9:=Hi hI;clear hlt
   go_wp2_with fail
   go_ret
   exact⟨rfl,uh hI9⟩
end Go.Proofs.YtifbkdicglcogaaGreat.cu
