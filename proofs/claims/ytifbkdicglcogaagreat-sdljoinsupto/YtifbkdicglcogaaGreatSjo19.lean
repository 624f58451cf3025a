import Derived.Test.YtifbkdicglcogaaGreatSjo18
set_option linter.unusedVariables false
set_option linter.unusedSimpArgs false
namespace Go.Proofs.YtifbkdicglcogaaGreat.cu
open dt (Dt Kp RowAt Ow Grow)
open mem (decF decZ putB scB Byt posT enB)
open lx (toks chs cln tksG tkG)
theorem zi8 {T:TypR} {b:Nat} (hF:Faults T b):Faults (unm T) (b+1):=by
 intro c hc hb hn;unfold unm at hn ⊢
 by_cases hp:c.isP bLb=true
 ·rw[if_pos hp] at hn ⊢
  by_cases hB:c.opB bLb=true
  ·rw[if_pos hB] at hn ⊢
   have ho:=zau hc bLb;have hx:=zaL hB
   cases hq:(T (c.opn bLb)).1 with
   | none=>exact hF _ ho.ok (by rw[ho.ts,hx];omega) hq
   | some it =>
    rw[hq] at hn;dsimp only at hn ⊢
    by_cases hr:(T (c.opn bLb)).2.isP bRb=true
    ·rw[if_pos hr] at hn;cases hn
    ·rw[if_neg hr]
     show ((T (c.opn bLb)).2.cls bRb).kd ≠ 0
     unfold Cu.cls;rw[if_neg hr];exact zbq _ _ (by decide)
  ·rw[if_neg hB]
   exact zez (by simpa using hB)
 ·rw[if_neg hp] at hn ⊢
  by_cases hN:c.isN=true
  ·rw[if_pos hN] at hn;cases hn
  ·rw[if_neg hN]
   exact zg8 (by simpa using hN)
theorem zcX:∀ f,Faults (typF f) f
 | 0=>fun c hc hb hn=>by have:=hc.lt;omega
 | f+1=>fun c hc hb hn=>by
  have hu:=zi8 (zcX f) c hc hb
  change (typ (unm (typF f)) c).1=none at hn
  show (typ (unm (typF f)) c).2.kd ≠ 0
  unfold typ at hn ⊢
  cases hq:(unm (typF f) c).1 with
  | none=>exact hu hq
  | some r =>
   rw[hq] at hn;dsimp only at hn
   split at hn <;> cases hn
section
variable {M b:Nat}
theorem zcY {T:TypR} {u:Cu}:unmI T u=(match (T u).1 with | none=>(none,(T u).2) | some it=>(cond ((T u).2.isP bRb) (some (it.1,it.2 ++ bRb)) none,(T u).2.cls bRb)):=by
 unfold unmI
 show (match (T u).1 with | none=>ret none | some it=>bnd (clsR bRb) fun cl=>ret (cond cl (some (it.1,it.2 ++ bRb)) none)) (T u).2=_
 cases (T u).1 <;> rfl
theorem zms {c:Cu} {p:ByteArray} (h:¬ c.isP p=true):(c.cls p).kd ≠ 0:=by
 unfold Cu.cls;rw[if_neg h];exact zbq _ _ (by decide)
theorem zkQ {T:TypR} (hF:Faults T b) (h:Ok3 M T b):Ok3 M (bnd (opnR bLb) fun o=>cond o (unmI T) (ret none)) (b+1):=by
 have eq:∀ c:Cu,(bnd (opnR bLb) fun o=>cond o (unmI T) (ret none)) c=cond (c.opB bLb) (unmI T) (ret none) (c.opn bLb):=fun c=>rfl
 have sU:St (unmI T):=zeL h.st;refine⟨(zdy bLb).bnd fun o=>zaK sU (zam _),fun c hc=>?_,fun c hc hb hi h0 hk=>?_,fun c hc hb hi h0 hk hw=>?_⟩
 ·rw[eq]
  have hB:c.opB bLb=false:=by unfold Cu.opB;rw[zaJ hc];rfl
  rw[hB]
  show c.opn bLb=c
  unfold Cu.opn;rw[zaJ hc];exact zaA _ _ hc
 ·rw[eq] at hk ⊢
  have ho:=zau hc bLb
  by_cases hB:c.opB bLb=true
  ·rw[hB] at hk ⊢
   simp only[cond_true] at hk ⊢;rw[zcY] at hk ⊢;obtain⟨h1,h2,h3⟩:=zbQ hB;have hI:=zdz ziI hB hi;have hkd:(c.opn bLb).kd=0:=by rw[h3];exact h0
   have hop:(c.opn bLb).op=c.op+1:=by rw[h3]
   have hix:=zaL hB;have hb':(c.opn bLb).ts.length≤b+(c.opn bLb).ix:=by rw[ho.ts,hix];omega
   cases hq:(T (c.opn bLb)).1 with
   | none=>rw[hq] at hk;exact absurd hk (hF _ ho.ok hb' hq)
   | some it =>
    rw[hq] at hk;dsimp only at hk ⊢
    by_cases hr:(T (c.opn bLb)).2.isP bRb=true
    ·rw[zcl hr] at hk ⊢
     obtain⟨o1,i1⟩:=h.bal _ ho.ok hb' hI hkd hk;refine⟨by show (T (c.opn bLb)).2.op - 1=c.op;omega,?_⟩
     show (((T (c.opn bLb)).2.op - 1:Nat):Int)=dpt (T (c.opn bLb)).2.ts ((T (c.opn bLb)).2.ix+1)
     rw[zcq,zcp hr,zlm];have hi':((T (c.opn bLb)).2.op:Int)=dpt (T (c.opn bLb)).2.ts (T (c.opn bLb)).2.ix:=i1;omega
    ·exact absurd hk (zms hr)
  ·have hB':c.opB bLb=false:=by simpa using hB
   rw[hB'] at hk;exact absurd hk (zez hB')
 ·rw[eq] at hk
  rw[eq,eq];have ho:=zau hc bLb
  by_cases hB:c.opB bLb=true
  ·rw[hB] at hk ⊢
   simp only[cond_true] at hk ⊢;have sF:=sU _ ho.ok;rw[zcY] at hk;obtain⟨h1,h2,h3⟩:=zbQ hB;have hI:=zdz ziI hB hi;have hkd:(c.opn bLb).kd=0:=by rw[h3];exact h0
   have hop:(c.opn bLb).op=c.op+1:=by rw[h3]
   have hix:=zaL hB;have hb':(c.opn bLb).ts.length≤b+(c.opn bLb).ix:=by rw[ho.ts,hix];omega
   rcases zkg ziI hB h0 hi hw with ⟨l1,b1,e1⟩ | ⟨b1,d1⟩
   ·rw[b1,e1]
    simp only[cond_true];rw[zcY,zcY] at *
    cases hq:(T (c.opn bLb)).1 with
    | none=>rw[hq] at hk;exact absurd hk (hF _ ho.ok hb' hq)
    | some it =>
     rw[hq] at hk sF;dsimp only at hk sF ⊢
     by_cases hr:(T (c.opn bLb)).2.isP bRb=true
     ·have hk2:(T (c.opn bLb)).2.kd=0:=by rw[zcl hr] at hk;exact hk
      have sT:=h.st _ ho.ok
      rcases h.dep _ ho.ok hb' hI hkd hk2 (by rw[ho.ts,hix];exact l1) with ⟨l2,e2⟩ | d2
      ·rw[e2,hq]
       dsimp only;have hr':((T (c.opn bLb)).2.at M).isP bRb=true:=hr;rw[zcl hr,zcl hr',hr,hr']
       left
       rw[ho.ts] at l2;refine⟨l2.succ ?_,rfl⟩
       have:dpt c.ts ((T (c.opn bLb)).2.ix+1)=dpt c.ts (T (c.opn bLb)).2.ix + -1:=by
        have e:=zcq (T (c.opn bLb)).2;rw[zcp hr,zlm,sT.ts,ho.ts] at e;exact e
       rw[this];have:=l2.top;omega
      ·right
       have hdd:=d2.dead;have:=sF.ix;have s3:=zbv sT.ok bRb
       cases hx:(T ((c.opn bLb).at M)).1 with
       | none=>exact (d2.to s3.ix).of ho
       | some it' =>
        dsimp only;have:(T ((c.opn bLb).at M)).2.cls bRb=(T ((c.opn bLb).at M)).2:=by unfold Cu.cls;rw[zaJ hdd];exact zaA _ _ hdd
        rw[this];exact (d2.to s3.ix).of ho
     ·exact absurd hk (zms hr)
   ·rw[b1]
    simp only[cond_false];exact .inr (d1 _ (by have:=sF.ix;omega))
  ·have hB':c.opB bLb=false:=by simpa using hB
   rw[hB'] at hk;exact absurd hk (zez hB')
theorem zrE {T:TypR} (hF:Faults T b) (h:Ok3 M T b):Ok3 M (unm T) (b+1):=by
 rw[zdO];exact (zdJ _).bnd fun q=>zaP (zkQ hF h) (nR_3.bnd fun n=>zaM _)
theorem zgS:∀ f,Ok3 M (typF f) f
 | 0=>⟨zaU 0,fun c hc=>rfl,fun c hc hb=>by have:=hc.lt;omega,fun c hc hb=>by have:=hc.lt;omega⟩
 | f+1=>by
  show Ok3 M (typ (unm (typF f))) (f+1)
  rw[zeK]
  exact (zrE (zcX f) (zgS f)).bnd fun r=>by
   cases r with
   | none=>exact zaM _
   | some r=>exact (zbe _ zjB).bnd fun q=>zaM _
theorem zge {D:LitR} (hD:Sti D):∀ (g:Nat) (l:List Dt) (c:Cu),c.kd ≠ 0→(defsF D g l c).2=c
 | 0,l,c,h=>rfl
 | g+1,l,c,h=>by
  simp only[defsF]
  split
  ·have h1:=hD c h
   cases hq:(D c).1 with
   | none=>exact h1
   | some d=>dsimp only;rw[h1];exact zge hD g _ c h
  ·show c.fin=c
   unfold Cu.fin
   split
   ·rfl
   ·exact zaA _ _ h
end
open mem (posT Byt)
theorem zcQ (D:LitR):∀ (g:Nat) (l:List Dt) (c:Cu),(defsF D g l c).1.isSome=true→(defsF D g l c).2.kd=0∧(defsF D g l c).2.tok.k=0
 | 0,l,c,h=>by cases h
 | g+1,l,c,h=>by
  simp only[defsF] at h ⊢
  split at h
  ·rename_i hc
   rw[if_pos hc]
   cases hq:(D c).1 with
   | none=>rw[hq] at h;cases h
   | some d=>rw[hq] at h;exact zcQ D g _ _ h
  ·rename_i hc
   rw[if_neg hc]
   show c.fin.kd=0∧c.fin.tok.k=0
   cases hf:c.finB with
   | false=>rw[hf] at h;cases h
   | true=>unfold Cu.fin;rw[if_pos hf];exact of_decide_eq_true hf
theorem zdn (l:List Int) (cl:Bool):∀ (m i:Nat) (t:Tk),i≤l.length→(tksG l cl i)[m]? = some t→t.k=0∨t.k=1→(tksG l cl i).length=m+1
 | 0,i,t,hi,h,hk=>by
  by_cases he:(tkG l cl i).k=0∨(tkG l cl i).k=1
  ·rw[lx.zbM he];rfl
  ·rw[lx.zch hi he] at h;simp at h;subst h;exact absurd hk he
 | m+1,i,t,hi,h,hk=>by
  have hle:=lx.zdN l cl i hi
  by_cases he:(tkG l cl i).k=0∨(tkG l cl i).k=1
  ·rw[lx.zbM he] at h;simp at h
  ·rw[lx.zch hi he] at h ⊢
   have:=zdn l cl m _ t hle.2.1 (by simpa using h) hk
   simp;omega
theorem zmy:dlt (pk bAmp)=0:=by decide
theorem zfq:dlt (pk bPipe)=0:=by decide
section
variable {M b:Nat}
theorem zew:Ok3 M namR b:=prim3 zaR (fun c h=>zbX h) (fun c h0 hk=>zkb (fun e=>e) hk) (fun c=>by
 show (nm3 c.tok c.isN,(c.at M).nmC c.isN)=(nm3 c.tok c.isN,(c.nmC c.isN).at M)
 rw[zgu])
theorem zmp (ws:List ByteArray):Ok3 M (butN ws) b:=prim3 (zcN ws) (fun c h=>zhc h (fun e=>by simp at e;exact e.1)) (fun c h0 hk=>zkb (fun e=>by simp at e;exact e.1) hk) (fun c=>by
 show (nm3 c.tok _,(c.at M).nmC _)=(nm3 c.tok _,(c.nmC _).at M)
 rw[zgu];rfl)
theorem zoS (ws:List ByteArray):Ok3 M (wwN ws) b:=prim3 (zcM ws) (fun c h=>zhc h (fun e=>zeq e)) (fun c h0 hk=>zkb (fun e=>zeq e) hk) (fun c=>by
 show (nm3 c.tok (c.isW ws),(c.at M).nmC _)=(nm3 c.tok (c.isW ws),(c.nmC _).at M)
 rw[zgu];rfl)
theorem zey:Ok3 M noteR b:=prim3 zaE zdx (fun c h0 hk=>by
 unfold noteR
 split
 ·rename_i hs
  exact .inr ⟨rfl,znH (by have:=(zgn hs).2;omega)⟩
 ·exact .inl rfl) (fun c=>by
 show (if c.isS then ((true,decide (c.tok.k=7),c.tok.va),(c.at M).take) else ((false,false,em),c.at M))=((noteR c).1,(noteR c).2.at M)
 unfold noteR
 split <;> rfl)
theorem zmW {E:Cu→Dt × Cu} (h:Ok3 M E b):Ok3 M (optR E) b:=h.bnd fun d=>zdQ.bnd fun a=>zaM _
theorem zmk {E:Cu→Dt × Cu} (hG:Goes (optR E)) (h:Ok3 M E b) {l r:ByteArray} (hl:dlt (pk l)=1) (hr:dlt (pk r) = -1):Ok3 M (brkT E l r) b:=
 ((zjg hG (zeA b) (zmW h) hl hr 1).mono (Nat.le_succ _)).bnd fun _=>zaM _
theorem zgv {E:Cu→Dt × Cu} (hG:Goes (optR E)) (h:Ok3 M E b) {l r:ByteArray} (hl:dlt (pk l)=1) (hr:dlt (pk r) = -1):Ok3 M (optT E l r) b:=
 (zdJ l).bnd fun q=>zaP (zmk hG h hl hr) (zaM _)
theorem zgz {E:Cu→Nm × Cu} {k:ByteArray} (hk:dlt (pk k)=0) (h:Ok3 M E b):∀ (g:Nat) (l:List Dt),Ok3 M (parF E k g l) b
 | 0,l=>zaM l
 | g+1,l=>(zbe k hk).bnd fun q=>zaP (h.bnd fun d=>zgz hk h g _) (zaM l)
theorem zkn {E:Cu→Nm × Cu} {k:ByteArray} (hk:dlt (pk k)=0) (h:Ok3 M E b) (N:Nat):Ok3 M (parT N E k) b:=(zbe k hk).bnd fun _=>h.bnd fun d=>zgz hk h N _
end
section
variable {M:Nat} (N:Nat)
theorem zb2:Ok3 M (dirs (litF true N)) N:=zmx (zaj true N) (zaQ true N) (zgq true N)
theorem znW:Ok3 M (inpT (typF N) (litF true N)) N:=zey.bnd fun _=>zew.bnd fun _=>(zdF _ zdH).bnd fun _=>(zgS N).bnd fun _=>(zbe _ zll).bnd fun q=>(zaP (zgq true N) (zaM _)).bnd fun _=>(zb2 N).bnd fun _=>zaM _
theorem fd_3:Ok3 M (fdT (typF N) (litF true N)) N:=zey.bnd fun _=>zew.bnd fun _=>(zgv (zaF N) (znW N) ziJ ziK).bnd fun _=>(zdF _ zdH).bnd fun _=>(zgS N).bnd fun _=>(zb2 N).bnd fun _=>zaM _
theorem zqE:Ok3 M (choT (litF true N)) N:=zey.bnd fun _=>(zmp _).bnd fun _=>(zb2 N).bnd fun _=>zaM _
theorem zrh {b:Nat}:Ok3 M rooT b:=(zoS _).bnd fun _=>(zdF _ zdH).bnd fun _=>zew.bnd fun _=>zaM _
theorem ziR {b:Nat} (s:Sy):Ok3 M (nmdT s) b:=zew.bnd fun _=>zaM _
theorem zrr (s:Sy):Ok3 M (schT (litF true N) s) N:=(zb2 N).bnd fun _=>(zdJ _).bnd fun q=>(zaP (zmk zdj zrh zeS zeT) (zaM _)).bnd fun _=>zaM _
theorem zrm (s:Sy):Ok3 M (scaT (litF true N) s) N:=(ziR s).bnd fun _=>(zb2 N).bnd fun _=>zaM _
theorem zp0 (s:Sy):Ok3 M (objT (typF N) (litF true N) N s) N:=(ziR s).bnd fun _=>(zeO _).bnd fun q=>(zaP (zkn zmy zew N) (zaM _)).bnd fun _=>(zb2 N).bnd fun _=>(zgv (zfw N) (fd_3 N) zeS zeT).bnd fun _=>zaM _
theorem zrz (s:Sy):Ok3 M (uniT (litF true N) N s) N:=(ziR s).bnd fun _=>(zb2 N).bnd fun _=>(zbe _ zll).bnd fun q=>(zaP (zkn zfq zew N) (zaM _)).bnd fun _=>zaM _
theorem zqR (s:Sy):Ok3 M (enuT (litF true N) s) N:=(ziR s).bnd fun _=>(zb2 N).bnd fun _=>(zgv (zc4 N) (zqE N) zeS zeT).bnd fun _=>zaM _
theorem zq0 (s:Sy):Ok3 M (inuT (typF N) (litF true N) s) N:=(ziR s).bnd fun _=>(zb2 N).bnd fun _=>(zgv (zaF N) (znW N) zeS zeT).bnd fun _=>zaM _
theorem zpo (s:Sy):Ok3 M (dirT (typF N) (litF true N) N s) N:=(zdF _ zlk).bnd fun _=>(ziR s).bnd fun _=>(zgv (zaF N) (znW N) ziJ ziK).bnd fun _=>(zeO _).bnd fun _=>(zqz _).bnd fun _=>(zkn zfq (zoS _) N).bnd fun _=>zaM _
theorem kw_3 {b:Nat} (q:ByteArray) {E F:Cu→Sy × Cu} (h:Ok3 M E b) (k:Ok3 M F b):Ok3 M (kwT q E F) b:=(zeO q).bnd fun _=>zaP h k
theorem zq5 (s:Sy):Ok3 M (keyT (typF N) (litF true N) N s) N:=zgO.bnd fun t =>
 kw_3 _ (zrr N _) (kw_3 _ (zrm N _) (kw_3 _ (zp0 N _) (kw_3 _ (zp0 N _) (kw_3 _ (zrz N _) (kw_3 _ (zqR N _) (kw_3 _ (zq0 N _) (zaP (zeI _) (kw_3 _ (zpo N _) (zeI _)))))))))
theorem zqJ:Ok3 M (defT (typF N) (litF true N) N) N:=zey.bnd fun n=>(zaP (zaM _) (zeO _)).bnd fun x=>(zq5 N _).bnd fun s=>zaP (zeI _) (zaM _)
theorem sd_3:Ok3 M (sdN N) N:=zmW (zqJ N)
end
def opS (L:Int) (i:Nat) (s:Int × Int × Int) (t:Tk):Int × Int × Int:=
 if t.k=2 then (s.1+dlt t,if s.2.1<s.1+dlt t then s.1+dlt t else s.2.1,if L<s.1+dlt t∧s.2.2<0 then (i:Int) else s.2.2) else s
def ops (L:Int) (ts:List Tk):Nat→Int × Int × Int
 | 0=>(0,0,-1)
 | i+1=>opS L i (ops L ts i) (ts.getD i Tk.zero)
open Go.ChangeShapes Go.WideShapes Go.ChangeAt Go.RowKit
open ints (Hi uh)
open dt (Dt Kp RowAt Ow Grow OwIn)
open mem (Row)
theorem zde {w:World} {k:Int} {tx:ByteArray} {bl:Bool} {its fls:List Dt} {ln co:Int} {cs:List Value} {F:List Nat} (h:Ow w (litD k tx bl (Dt.of its) (Dt.of fls) ln co) cs F) :
  ∃ ai ni ci af nf cf,cs=[.int .i64 k,.string tx,.bool bl,.slice ai ni ci,.slice af nf cf,.int .i64 ln,.int .i64 co]∧ni=its.length∧nf=fls.length∧ni≤ci∧nf≤cf∧ci≤maxLen∧cf≤maxLen ∧
   (∀ i e,its[i]? = some e→∃ p ds G,ai=some ⟨p,0,none⟩∧p ∈ F∧RowAt w p (i * 7) ds∧ds.length=7∧Ow w e ds G∧∀ b ∈ G,b ∈ F) ∧
   (∀ i e,fls[i]? = some e→∃ p ds G,af=some ⟨p,0,none⟩∧p ∈ F∧RowAt w p (i * 10) ds∧ds.length=10∧Ow w e ds G∧∀ b ∈ G,b ∈ F):=by
 unfold litD at h;unfold Ow at h;obtain⟨d1,rfl,_,h⟩:=h;unfold Ow at h;obtain⟨d2,rfl,_,h⟩:=h;unfold Ow at h;obtain⟨d3,rfl,_,h⟩:=h;unfold Ow at h;obtain⟨ai,ni,ci,d4,F1,F2,rfl,i1,i2,i3,i4,h,rfl⟩:=h;unfold Ow at h;obtain⟨af,nf,cf,d5,F3,F4,rfl,j1,j2,j3,j4,h,rfl⟩:=h;unfold Ow at h;obtain⟨d6,rfl,_,h⟩:=h;unfold Ow at h;obtain⟨d7,rfl,_,h⟩:=h;unfold Ow at h
 obtain⟨rfl,rfl⟩:=h
 have key:∀ (l:List Dt) (k:Nat) (a:Option Addr) (n:Nat) (G0:List Nat),((a=none∧Dt.of l = .nil∧n=0∧G0=[])∨∃ p G,a=some ⟨p,0,none⟩∧G0=p :: G∧OwIn w (Dt.of l) k p 0 n G)→n=l.length∧∀ i e,l[i]? = some e→∃ p ds G,a=some ⟨p,0,none⟩∧p ∈ G0∧RowAt w p (i * k) ds∧ds.length=k∧Ow w e ds G∧∀ b ∈ G,b ∈ G0:=by
  intro l k a n G0 h
  rcases h with ⟨_,h2,h3,_⟩ | ⟨p,G,rfl,rfl,h⟩
  ·cases l with
   | nil=>exact⟨h3,fun i e he=>by simp at he⟩
   | cons d l=>unfold Dt.of at h2;cases h2
  ·obtain⟨h1,h2⟩:=OwIn.get l k p 0 n G h
   refine⟨h1.symm,fun i e he=>?_⟩
   obtain⟨ds,Gi,g1,g2,g3,g4⟩:=h2 i e he;exact⟨p,ds,Gi,rfl,by simp,by simpa using g1,g2,g3,fun b hb=>by simp[g4 b hb]⟩
 obtain⟨e1,e2⟩:=key its 7 ai ni F1 i4;obtain⟨e3,e4⟩:=key fls 10 af nf F3 j4;refine⟨ai,ni,ci,af,nf,cf,rfl,e1,e3,i1,j1,i2,j2,fun i e he=>?_,fun i e he=>?_⟩
 ·obtain⟨p,ds,G,g1,g2,g3,g4,g5,g6⟩:=e2 i e he
  exact⟨p,ds,G,g1,by simp[g2],g3,g4,g5,fun b hb=>by simp[g6 b hb]⟩
 ·obtain⟨p,ds,G,g1,g2,g3,g4,g5,g6⟩:=e4 i e he
  exact⟨p,ds,G,g1,by simp[g2],g3,g4,g5,fun b hb=>by simp[g6 b hb]⟩
theorem zbi {w:World} {nm:ByteArray} {k:Int} {tx:ByteArray} {bl:Bool} {its fls:Dt} {ln co x y:Int} {cs:List Value} {F:List Nat} (h:Ow w (fldD nm (litD k tx bl its fls ln co) x y) cs F) :
  ∃ ai ni ci af nf cf,cs=[.string nm,.int .i64 k,.string tx,.bool bl,.slice ai ni ci,.slice af nf cf,.int .i64 ln,.int .i64 co,.int .i64 x,.int .i64 y]∧Ow w (litD k tx bl its fls ln co) [.int .i64 k,.string tx,.bool bl,.slice ai ni ci,.slice af nf cf,.int .i64 ln,.int .i64 co] F:=by
 unfold fldD litD at h;simp only[app] at h;unfold Ow at h;obtain⟨d0,rfl,_,h⟩:=h;unfold Ow at h;obtain⟨d1,rfl,a1,h⟩:=h;unfold Ow at h;obtain⟨d2,rfl,a2,h⟩:=h;unfold Ow at h;obtain⟨d3,rfl,a3,h⟩:=h;unfold Ow at h;obtain⟨ai,ni,ci,d4,F1,F2,rfl,i1,i2,i3,i4,h,rfl⟩:=h;unfold Ow at h;obtain⟨af,nf,cf,d5,F3,F4,rfl,j1,j2,j3,j4,h,rfl⟩:=h;unfold Ow at h;obtain⟨d6,rfl,a6,h⟩:=h
 unfold Ow at h;obtain⟨d7,rfl,a7,h⟩:=h;unfold Ow at h;obtain⟨d8,rfl,a8,h⟩:=h;unfold Ow at h;obtain⟨d9,rfl,a9,h⟩:=h;unfold Ow at h;obtain⟨rfl,rfl⟩:=h;refine⟨ai,ni,ci,af,nf,cf,rfl,?_⟩
 unfold litD Ow;refine⟨_,rfl,a1,?_⟩
 unfold Ow;refine⟨_,rfl,a2,?_⟩
 unfold Ow;refine⟨_,rfl,a3,?_⟩
 unfold Ow;refine⟨ai,ni,ci,_,F1,F3 ++ [],rfl,i1,i2,i3,i4,?_,rfl⟩
 unfold Ow;refine⟨af,nf,cf,_,F3,[],rfl,j1,j2,j3,j4,?_,rfl⟩
 unfold Ow;refine⟨_,rfl,a6,?_⟩
 unfold Ow;refine⟨_,rfl,a7,?_⟩
 unfold Ow;exact⟨rfl,rfl⟩
structure FvI (w wr:World) (vc:Array Value):Prop where
 bel:Below w.heap.size w wr
 v:wr.heap[w.heap.size]? = some (.cells vc 99 (0,0))
 r:wr.heap[w.heap.size+1]? = some (.cells #[.int .i64 0,.int .i64 0] 37 (0,0))
def EqL (pl:Bool):Nat→Dt→Dt→Prop
 | 0,_,_=>False
 | f+1,d,e=>∃ k tx bl its its' fls fls' ln co ln' co',d=litD k tx bl (Dt.of its) (Dt.of fls) ln co∧e=litD k tx bl (Dt.of its') (Dt.of fls') ln' co'∧(pl=true→ln=ln'∧co=co') ∧
   its.length=its'.length∧fls.length=fls'.length∧(∀ (i:Nat) x y,its[i]? = some x→its'[i]? = some y→EqL pl f x y) ∧
   (∀ (i:Nat) x y,fls[i]? = some x→fls'[i]? = some y→∃ nm v v' a b a' b',x=fldD nm v a b∧y=fldD nm v' a' b'∧(pl=true→a=a'∧b=b')∧EqL pl f v v')
theorem EqL.left {pl:Bool}:∀ {f:Nat} {d e:Dt},EqL pl f d e→∃ k tx bl its fls ln co,d=litD k tx bl its fls ln co
 | 0,d,e,h=>h.elim
 | f+1,d,e,⟨k,tx,bl,its,its',fls,fls',ln,co,ln',co',h,_⟩=>⟨k,tx,bl,_,_,ln,co,h⟩
theorem EqL.right {pl:Bool}:∀ {f:Nat} {d e:Dt},EqL pl f d e→∃ k tx bl its fls ln co,e=litD k tx bl its fls ln co
 | 0,d,e,h=>h.elim
 | f+1,d,e,⟨k,tx,bl,its,its',fls,fls',ln,co,ln',co',_,h,_⟩=>⟨k,tx,bl,_,_,ln',co',h⟩
theorem zdf {w:World} {k:Int} {tx:ByteArray} {bl:Bool} {its fls:Dt} {ln co:Int} {cs:List Value} {F:List Nat} (h:Ow w (litD k tx bl its fls ln co) cs F):LShape cs:=by
 unfold litD at h;unfold Ow at h;obtain⟨d1,rfl,_,h⟩:=h;unfold Ow at h;obtain⟨d2,rfl,_,h⟩:=h;unfold Ow at h;obtain⟨d3,rfl,_,h⟩:=h;unfold Ow at h;obtain⟨ai,ni,ci,d4,F1,F2,rfl,i1,i2,i3,i4,h,rfl⟩:=h;unfold Ow at h;obtain⟨af,nf,cf,d5,F3,F4,rfl,j1,j2,j3,j4,h,rfl⟩:=h;unfold Ow at h;obtain⟨d6,rfl,_,h⟩:=h;unfold Ow at h;obtain⟨d7,rfl,_,h⟩:=h;unfold Ow at h
 obtain⟨rfl,rfl⟩:=h;exact⟨_,_,_,_,_,_,_,_,_,_,_,rfl⟩
def SmAt (pl:Bool) (d e:Dt):Prop:=∀ (w:World) (cs ds:List Value) (F G:List Nat),Ow w d cs F→Ow w e ds G→(∀ b ∈ F,b<w.heap.size)→(∀ b ∈ G,b<w.heap.size)→Calls Tryz.prog 67 #[.agg cs.toArray,.agg ds.toArray,.bool pl] w fun e w'=>e = .returned (.bool true)∧Below w.heap.size w w'
structure SmI (w wr:World) (vc uc:Array Value):Prop where
 bel:Below w.heap.size w wr
 v:wr.heap[w.heap.size]? = some (.cells vc 99 (0,0))
 u:wr.heap[w.heap.size+1]? = some (.cells uc 99 (0,0))
theorem SmI.more {w wr wn:World} {vc uc:Array Value} (h:SmI w wr vc uc) (hb:Below wr.heap.size wr wn):SmI w wn vc uc:=by
 have h1:w.heap.size<wr.heap.size:=by
  rcases Nat.lt_or_ge w.heap.size wr.heap.size with g | g
  ·exact g
  ·have:=h.v;rw[Array.getElem?_eq_none g] at this;cases this
 have h2:w.heap.size+1<wr.heap.size:=by
  rcases Nat.lt_or_ge (w.heap.size+1) wr.heap.size with g | g
  ·exact g
  ·have:=h.u;rw[Array.getElem?_eq_none g] at this;cases this
 exact⟨h.bel.trans (hb.mono h.bel.size),(hb.block _ h1).trans h.v,(hb.block _ h2).trans h.u⟩
def EqLs (R:Dt→Dt→Prop) (l l':List Dt):Prop:=l.length=l'.length∧∀ (i:Nat) x y,l[i]? = some x→l'[i]? = some y→R x y
def EqA (pl:Bool) (f:Nat) (x y:Dt):Prop:=∃ nm v v' a b a' b',x=fldD nm v a b∧y=fldD nm v' a' b'∧(pl=true→a=a'∧b=b')∧EqL pl f v v'
def EqR (pl:Bool) (f:Nat) (x y:Dt):Prop:=∃ nm l l' a b a' b',x=dirD nm l a b∧y=dirD nm l' a' b'∧(pl=true→a=a'∧b=b')∧EqLs (EqA pl f) l l'
def Ls (w:World) (k:Nat) (l:List Dt) (a:Option Addr) (F:List Nat):Prop:=l=[]∨∃ p off,a=some ⟨p,off,none⟩∧p ∈ F∧∀ (i:Nat) e,l[i]? = some e→∃ ds G,RowAt w p (off+i * k) ds∧ds.length=k∧Ow w e ds G∧∀ b ∈ G,b ∈ F
theorem Ls.below {w w':World} {k:Nat} {l:List Dt} {a:Option Addr} {F:List Nat} (h:Ls w k l a F) (hF:∀ b ∈ F,b<w.heap.size) (hb:Below w.heap.size w w'):Ls w' k l a F:=by
 rcases h with h | ⟨p,off,ha,hp,h⟩
 ·exact .inl h
 ·refine .inr ⟨p,off,ha,hp,fun i e he=>?_⟩
  obtain⟨ds,G,h1,h2,h3,h4⟩:=h i e he;exact⟨ds,G,h1.below hb,h2,dt.Ow.agree e ds G (fun b hb' o=>hb.cell (p:=⟨b,o,none⟩) (hF b (h4 b hb'))) h3,h4⟩
theorem Ls.mono {w:World} {k:Nat} {l:List Dt} {a:Option Addr} {F F':List Nat} (h:Ls w k l a F) (hF:∀ b ∈ F,b ∈ F'):Ls w k l a F':=by
 rcases h with h | ⟨p,off,ha,hp,h⟩
 ·exact .inl h
 ·refine .inr ⟨p,off,ha,hF p hp,fun i e he=>?_⟩
  obtain⟨ds,G,h1,h2,h3,h4⟩:=h i e he;exact⟨ds,G,h1,h2,h3,fun b hb=>hF b (h4 b hb)⟩
theorem Ls.drop {w:World} {k:Nat} {l:List Dt} {p off:Nat} {F:List Nat} (h:Ls w k l (some ⟨p,off,none⟩) F) (n:Nat):Ls w k (l.drop n) (some ⟨p,off+n * k,none⟩) F:=by
 rcases h with h | ⟨p',off',ha,hp,h⟩
 ·exact .inl (by rw[h];simp)
 ·obtain⟨rfl,rfl⟩:p=p'∧off=off':=by simpa using ha
  refine .inr ⟨p,_,rfl,hp,fun i e he=>?_⟩
  obtain⟨ds,G,h1,h2,h3,h4⟩:=h (n+i) e (by rw[List.getElem?_drop] at he;exact he)
  exact⟨ds,G,by rw[show off+n * k+i * k=off+(n+i) * k by rw[Nat.add_mul];omega];exact h1,h2,h3,h4⟩
theorem Ls.take {w:World} {k:Nat} {l:List Dt} {a:Option Addr} {F:List Nat} (h:Ls w k l a F) (n:Nat):Ls w k (l.take n) a F:=by
 rcases h with h | ⟨p',off',ha,hp,h⟩
 ·exact .inl (by rw[h];simp)
 ·refine .inr ⟨p',off',ha,hp,fun i e he=>?_⟩
  rw[List.getElem?_take] at he
  split at he
  ·exact h i e he
  ·cases he
theorem zbH {w:World} {k n:Nat} {l:List Dt} {a:Option Addr} {F:List Nat} (h:(a=none∧Dt.of l = .nil∧n=0∧F=[])∨∃ p G,a=some ⟨p,0,none⟩∧F=p :: G∧OwIn w (Dt.of l) k p 0 n G):n=l.length∧Ls w k l a F:=by
 rcases h with ⟨h1,h2,h3,h4⟩ | ⟨p,G,h1,rfl,h3⟩
 ·have:l=[]:=by
   cases l with
   | nil=>rfl
   | cons e r=>simp[Dt.of] at h2
  exact⟨by rw[this,h3];rfl,.inl this⟩
 ·obtain⟨h4,h5⟩:=dt.OwIn.get l k p 0 n G h3
  refine⟨h4.symm,.inr ⟨p,0,h1,List.mem_cons_self ..,fun i e he=>?_⟩⟩
  obtain⟨cs,Gi,h6,h7,h8,h9⟩:=h5 i e he;exact⟨cs,Gi,h6,h7,h8,fun b hb=>List.mem_cons_of_mem _ (h9 b hb)⟩
theorem zc8 {w:World} {nm:ByteArray} {l:List Dt} {x y:Int} {cs:List Value} {F:List Nat} (h:Ow w (dirD nm l x y) cs F) :
  ∃ a c,cs=[.string nm,.slice a l.length c,.int .i64 x,.int .i64 y]∧l.length≤c∧c≤maxLen∧Ls w 10 l a F:=by
 unfold dirD Ow at h;obtain⟨d0,rfl,_,h⟩:=h;unfold Ow at h;obtain⟨a,n,c,d1,F1,F2,rfl,i1,i2,i3,i4,h,rfl⟩:=h;obtain⟨rfl,hl⟩:=zbH i4;unfold Ow at h;obtain⟨d2,rfl,a6,h⟩:=h;unfold Ow at h;obtain⟨d3,rfl,a7,h⟩:=h;unfold Ow at h;obtain⟨rfl,rfl⟩:=h;exact⟨a,c,rfl,i1,i2,hl.mono (fun b hb=>List.mem_append_left _ hb)⟩
def SmLs (fn:Nat) (pl:Bool) (k:Nat) (l l':List Dt):Prop:=∀ (w:World) (a a':Option Addr) (c c':Nat) (F G:List Nat),Ls w k l a F→Ls w k l' a' G→(∀ b ∈ F,b<w.heap.size)→(∀ b ∈ G,b<w.heap.size)→l.length≤c→l'.length≤c'→c≤maxLen→c'≤maxLen →
 Calls Tryz.prog fn #[.slice a l.length c,.slice a' l'.length c',.bool pl] w fun e w'=>e = .returned (.bool true)∧Below w.heap.size w w'
def EqT (pl:Bool) (t t':Tk):Prop:=t'.k=t.k∧t'.tx=t.tx∧t'.va=t.va∧(pl=true→t.ln=t'.ln∧t.co=t'.co)
theorem EqT.refl (pl:Bool) (t:Tk):EqT pl t t:=⟨rfl,rfl,rfl,fun _=>⟨rfl,rfl⟩⟩
structure Sf (pl:Bool) (m s e:Nat) (c c':Cu):Prop where
 ix:c'.ix=c.ix+s
 op:c'.op=c.op+e
 mo:c'.mo=c.mo+e
 kd:c'.kd=c.kd
 tk:∀ i,i≤m→EqT pl (c.ts.getD i Tk.zero) (c'.ts.getD (i+s) Tk.zero)
def Ps {A:Type} (e:Nat) (c:Cu) (E:Cu→A × Cu):Prop:=e=0∨(Inv c∧c.kd=0∧(E c).2.kd=0)
section
variable {pl:Bool} {m s e:Nat}
theorem Sf.tok {c c':Cu} (h:Sf pl m s e c c') (hi:c.ix≤m):EqT pl c.tok c'.tok:=by
 have:=h.tk c.ix hi;rw[← h.ix] at this;exact this
theorem Sf.isP {c c':Cu} (h:Sf pl m s e c c') (hi:c.ix≤m) (p:ByteArray):c'.isP p=c.isP p:=by
 have t:=h.tok hi;unfold Cu.isP;rw[h.kd,t.1,t.2.1]
theorem Sf.isN {c c':Cu} (h:Sf pl m s e c c') (hi:c.ix≤m):c'.isN=c.isN:=by
 have t:=h.tok hi;unfold Cu.isN;rw[h.kd,t.1]
theorem Sf.isW {c c':Cu} (h:Sf pl m s e c c') (hi:c.ix≤m) (ws:List ByteArray):c'.isW ws=c.isW ws:=by
 have t:=h.tok hi;unfold Cu.isW;rw[h.isN hi,t.2.1]
theorem Sf.finB {c c':Cu} (h:Sf pl m s e c c') (hi:c.ix≤m):c'.finB=c.finB:=by
 have t:=h.tok hi;unfold Cu.finB;rw[h.kd,t.1]
theorem Sf.take {c c':Cu} (h:Sf pl m s e c c'):Sf pl m s e c.take c'.take:=⟨by show c'.ix+1=c.ix+1+s;rw[h.ix];omega,h.op,h.mo,h.kd,h.tk⟩
theorem Sf.stop {c c':Cu} (h:Sf pl m s e c c') (k:Int):Sf pl m s e (c.stop k) (c'.stop k):=by
 unfold Cu.stop;rw[h.kd]
 split
 ·exact⟨h.ix,h.op,h.mo,rfl,h.tk⟩
 ·exact h
theorem Sf.nmC {c c':Cu} (h:Sf pl m s e c c') (so:Bool):Sf pl m s e (c.nmC so) (c'.nmC so):=by
 cases so
 ·exact h.stop 70
 ·exact h.take
theorem Sf.name {c c':Cu} (h:Sf pl m s e c c') (hi:c.ix≤m):Sf pl m s e c.name c'.name:=by
 unfold Cu.name;rw[h.isN hi]
 split
 ·exact h.take
 ·exact h.stop 70
theorem Sf.want {c c':Cu} (h:Sf pl m s e c c') (hi:c.ix≤m) (p:ByteArray):Sf pl m s e (c.want p) (c'.want p):=by
 unfold Cu.want;rw[h.isP hi]
 split
 ·exact h.take
 ·exact h.stop 70
theorem Sf.punct {c c':Cu} (h:Sf pl m s e c c') (hi:c.ix≤m) (p:ByteArray):Sf pl m s e (c.punct p) (c'.punct p):=by
 unfold Cu.punct;rw[h.isP hi]
 split
 ·exact h.take
 ·exact h
theorem Sf.word {c c':Cu} (h:Sf pl m s e c c') (hi:c.ix≤m) (q:ByteArray):Sf pl m s e (c.word q) (c'.word q):=by
 unfold Cu.word;rw[h.isW hi]
 split
 ·exact h.take
 ·exact h
theorem Sf.fin {c c':Cu} (h:Sf pl m s e c c') (hi:c.ix≤m):Sf pl m s e c.fin c'.fin:=by
 unfold Cu.fin;rw[h.finB hi]
 split
 ·exact h
 ·exact h.stop 70
theorem Sf.opB {c c':Cu} (h:Sf pl m s e c c') (hi:c.ix≤m) (p:ByteArray):c'.opB p=c.opB p:=by
 unfold Cu.opB;rw[h.isP hi,h.op,h.mo]
 congr 1
 exact decide_eq_decide.2 (by omega)
theorem Sf.opn {c c':Cu} (h:Sf pl m s e c c') (hi:c.ix≤m) (p:ByteArray):Sf pl m s e (c.opn p) (c'.opn p):=by
 unfold Cu.opn;rw[h.isP hi]
 split
 ·have hx:=h.op
  have hy:=h.mo
  by_cases g:c.op<c.mo
  ·rw[if_pos g,if_pos (by omega)]
   exact⟨by show c'.ix+1=c.ix+1+s;rw[h.ix];omega,by show c'.op+1=c.op+1+e;omega,hy,h.kd,h.tk⟩
  ·rw[if_neg g,if_neg (by omega)]
   exact h.stop 71
 ·exact h.stop 70
theorem Sf.cls {c c':Cu} (h:Sf pl m s e c c') (hi:c.ix≤m) (p:ByteArray) (he:e=0∨1≤c.op):Sf pl m s e (c.cls p) (c'.cls p):=by
 unfold Cu.cls;rw[h.isP hi]
 split
 ·have hx:=h.op
  exact⟨by show c'.ix+1=c.ix+1+s;rw[h.ix];omega,by show c'.op - 1=c.op - 1+e;omega,h.mo,h.kd,h.tk⟩
 ·exact h.stop 70
end
structure Ok4 {A X:Type} (pl:Bool) (m s e:Nat) (P:Prop) (V:A→X→Prop) (E:Cu→A × Cu) (E':Cu→X × Cu) (b b':Nat):Prop where
 o:Ok3 0 E b
 st':St E'
 near:P→∀ c c',c.Ok→c'.Ok→Sf pl m s e c c'→c.ts.length≤b+c.ix→c'.ts.length≤b'+c'.ix→Ps e c E→(E c).2.ix≤m→V (E c).1 (E' c').1∧Sf pl m s e (E c).2 (E' c').2
structure Ok5 {A X:Type} (pl:Bool) (m s e:Nat) (P:Prop) (V:Option A→Option X→Prop) (E:Cu→Option A × Cu) (E':Cu→Option X × Cu) (b b':Nat):Prop where
 o:Ok3 0 E b
 st':St E'
 go:∀ c,c.Ok→(E c).1.isSome=true→c.ix<(E c).2.ix
 near:P→∀ c c',c.Ok→c'.Ok→Sf pl m s e c c'→c.ts.length≤b+c.ix→c'.ts.length≤b'+c'.ix→Ps e c E→(E c).1.isSome=true→(E c).2.ix≤m+1→V (E c).1 (E' c').1∧Sf pl m s e (E c).2 (E' c').2
section
variable {pl:Bool} {m s e:Nat} {P:Prop} {b b':Nat}
theorem Ps.one {A X:Type} {E:Cu→A × Cu} {F:A→Cu→X × Cu} {c:Cu} (sF:∀ a,Sti (F a)) (h:Ps e c (bnd E F)):Ps e c E:=by
 rcases h with h | ⟨h1,h2,h3⟩
 ·exact .inl h
 ·refine .inr ⟨h1,h2,Classical.byContradiction fun x=>?_⟩
  have h4:(F (E c).1 (E c).2).2.kd=0:=h3;rw[sF _ _ x] at h4;exact x h4
theorem Ps.two {A X:Type} {E:Cu→A × Cu} {F:A→Cu→X × Cu} {c:Cu} (o:Ok3 0 E b) (sF:∀ a,Sti (F a)) (hc:c.Ok) (hb:c.ts.length≤b+c.ix) (h:Ps e c (bnd E F)):Ps e (E c).2 (F (E c).1):=by
 have h5:=h.one sF
 rcases h with h | ⟨h1,h2,h3⟩
 ·exact .inl h
 ·rcases h5 with h5 | ⟨_,_,h6⟩
  ·exact .inl h5
  ·exact .inr ⟨(o.bal c hc hb h1 h2 h6).2,h6,h3⟩
theorem Ok4.bnd {A X Y Z:Type} {V:A→X→Prop} {V':Y→Z→Prop} {E:Cu→A × Cu} {E':Cu→X × Cu} {F:A→Cu→Y × Cu} {F':X→Cu→Z × Cu} [Nonempty A] [Nonempty X] (h:Ok4 pl m s e P V E E' b b') (k:∀ a a',Ok4 pl m s e (P∧V a a') V' (F a) (F' a') b b'):Ok4 pl m s e P V' (bnd E F) (bnd E' F') b b':=by
 have oF:∀ a,Ok3 0 (F a) b:=fun a=>(k a (Classical.choice inferInstance)).o
 have sF':∀ a',St (F' a'):=fun a'=>(k (Classical.choice inferInstance) a').st'
 refine⟨h.o.bnd oF,h.st'.bnd sF',fun hp c c' hc hc' hs hb hb' hP hm=>?_⟩
 have s1:=h.o.st c hc;have s2:=h.st' c' hc';have t1:=(oF (E c).1).st _ s1.ok;obtain⟨e1,e2⟩:=h.near hp c c' hc hc' hs hb hb' (hP.one fun a=>(oF a).sti) (Nat.le_trans t1.ix hm)
 exact (k (E c).1 (E' c').1).near ⟨hp,e1⟩ (E c).2 (E' c').2 s1.ok s2.ok e2 (by rw[s1.ts];have:=s1.ix;omega) (by rw[s2.ts];have:=s2.ix;omega) (hP.two h.o (fun a=>(oF a).sti) hc hb) hm
theorem Ok4.mono {A X:Type} {V:A→X→Prop} {E:Cu→A × Cu} {E':Cu→X × Cu} {d d':Nat} (h:Ok4 pl m s e P V E E' b b') (hd:d≤b) (hd':d'≤b'):Ok4 pl m s e P V E E' d d':=⟨h.o.mono hd,h.st',fun hp c c' hc hc' hs hb hb'=>h.near hp c c' hc hc' hs (by omega) (by omega)⟩
theorem Ok4.wk {A X:Type} {V:A→X→Prop} {E:Cu→A × Cu} {E':Cu→X × Cu} (h:Ok4 pl m s e True V E E' b b'):Ok4 pl m s e P V E E' b b':=⟨h.o,h.st',fun _=>h.near trivial⟩
theorem za5 {A X:Type} {V:A→X→Prop} {q q':Bool} {E F:Cu→A × Cu} {E' F':Cu→X × Cu} (hq:P→q=q') (h:Ok4 pl m s e P V E E' b b') (k:Ok4 pl m s e P V F F' b b'):Ok4 pl m s e P V (cond q E F) (cond q' E' F') b b':=by
 refine⟨zaP h.o k.o,by cases q';exact k.st';exact h.st',fun hp=>?_⟩
 obtain rfl:=hq hp
 cases q
 ·exact k.near hp
 ·exact h.near hp
theorem zaX {A X:Type} {V:A→X→Prop} {a:A} {x:X} (h:P→V a x):Ok4 pl m s e P V (ret a) (ret x) b b':=⟨zaM _,zam _,fun hp c c' hc hc' hs hb hb' hP hm=>⟨h hp,hs⟩⟩
theorem zqi:Ok4 pl m s e P (EqT pl) tokR tokR b b':=⟨zgO,zcy,fun hp c c' hc hc' hs hb hb' hP hm=>⟨hs.tok hm,hs⟩⟩
theorem zen (p:ByteArray):Ok4 pl m s e P Eq (isPR p) (isPR p) b b':=⟨zdJ p,za7 p,fun hp c c' hc hc' hs hb hb' hP hm=>⟨(hs.isP hm p).symm,hs⟩⟩
theorem zfg:Ok4 pl m s e P Eq aliveR aliveR b b':=⟨zdQ,zbg,fun hp c c' hc hc' hs hb hb' hP hm=>⟨by show decide (c.kd=0)=decide (c'.kd=0);rw[hs.kd],hs⟩⟩
theorem nR_4:Ok4 pl m s e P Eq nR nR b b':=⟨nR_3,zdP,fun hp c c' hc hc' hs hb hb' hP hm=>by
 have hi:c.ix≤m:=Nat.le_trans (zar hc).ix hm
 exact⟨by show (c.isN,c.tok.tx)=(c'.isN,c'.tok.tx);rw[hs.isN hi,(hs.tok hi).2.1],hs.name hi⟩⟩
theorem zeM (p:ByteArray) (hp:dlt (pk p)=0):Ok4 pl m s e P Eq (wantR p) (wantR p) b b':=⟨zdF p hp,zaN p,fun hp c c' hc hc' hs hb hb' hP hm=>by
 have hi:c.ix≤m:=Nat.le_trans (za0 hc p).ix hm
 exact⟨rfl,hs.want hi p⟩⟩
theorem zcJ (p:ByteArray) (hp:dlt (pk p)=0):Ok4 pl m s e P Eq (punctR p) (punctR p) b b':=⟨zbe p hp,zap p,fun hp c c' hc hc' hs hb hb' hP hm=>by
 have hi:c.ix≤m:=Nat.le_trans (zaT hc p).ix hm
 exact⟨(hs.isP hi p).symm,hs.punct hi p⟩⟩
theorem zf0 (q:ByteArray):Ok4 pl m s e P Eq (wordR q) (wordR q) b b':=⟨zeO q,zaw q,fun hp c c' hc hc' hs hb hb' hP hm=>by
 have hi:c.ix≤m:=Nat.le_trans (zaw q c hc).ix hm
 exact⟨(hs.isW hi [q]).symm,hs.word hi q⟩⟩
theorem zrH (ws:List ByteArray):Ok4 pl m s e P Eq (wwR ws) (wwR ws) b b':=⟨zqz ws,zbB ws,fun hp c c' hc hc' hs hb hb' hP hm=>by
 have hi:c.ix≤m:=Nat.le_trans (zbB ws c hc).ix hm;refine⟨(hs.isW hi ws).symm,?_⟩
 show Sf pl m s e (c.nmC _) (c'.nmC _)
 rw[hs.isW hi ws]
 exact hs.nmC _⟩
theorem zfU {A X:Type} {V:A→X→Prop} {a:A} {x:X} (h:P→V a x):Ok4 pl m s e P V (stopR a) (stopR x) b b':=⟨zeI a,za9 x,fun hp c c' hc hc' hs hb hb' hP hm=>⟨h hp,hs.stop 70⟩⟩
theorem zoG (k:Int) (h0:k ≠ 0) (h1:k ≠ 1) (h2:k ≠ 2):Ok4 pl m s e P Eq (takeK k) (takeK k) b b':=⟨zkF k h0 h1 h2,zdm k h0 h1,fun hp c c' hc hc' hs hb hb' hP hm=>by
 have hi:c.ix≤m:=Nat.le_trans (zdm k h0 h1 c hc).ix hm;refine⟨rfl,?_⟩
 show Sf pl m s e (if c.kd=0∧c.tok.k=k then c.take else c) (if c'.kd=0∧c'.tok.k=k then c'.take else c')
 rw[hs.kd,(hs.tok hi).1]
 split
 ·exact hs.take
 ·exact hs⟩
end
end Go.Proofs.YtifbkdicglcogaaGreat.cu
