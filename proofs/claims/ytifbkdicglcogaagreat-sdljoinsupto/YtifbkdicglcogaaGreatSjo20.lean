import Derived.Test.YtifbkdicglcogaaGreatSjo19
set_option linter.unusedVariables false
set_option linter.unusedSimpArgs false
namespace Go.Proofs.YtifbkdicglcogaaGreat.cu
open dt (Dt Kp RowAt Ow Grow)
def OD (R:Dt→Dt→Prop):Option Dt→Option Dt→Prop
 | none,none=>True
 | some x,some y=>R x y
 | _,_=>False
def OL (R:Dt→Dt→Prop):Option (List Dt)→Option (List Dt)→Prop
 | none,none=>True
 | some x,some y=>EqLs R x y
 | _,_=>False
theorem OD.map {R R':Dt→Dt→Prop} {a b:Option Dt} {f f':Dt→Dt} (h:OD R a b) (k:∀ x y,R x y→R' (f x) (f' y)):OD R' (a.map f) (b.map f'):=by
 cases a <;> cases b
 ·trivial
 ·exact h.elim
 ·exact h.elim
 ·exact k _ _ h
theorem OL.map {R R':Dt→Dt→Prop} {a b:Option (List Dt)} {f f':List Dt→Dt} (h:OL R a b) (k:∀ x y,EqLs R x y→R' (f x) (f' y)):OD R' (a.map f) (b.map f'):=by
 cases a <;> cases b
 ·trivial
 ·exact h.elim
 ·exact h.elim
 ·exact k _ _ h
theorem EqLs.nil {R:Dt→Dt→Prop}:EqLs R [] []:=⟨rfl,fun i x y hx=>by simp at hx⟩
theorem EqLs.snoc {R:Dt→Dt→Prop} {l l':List Dt} {d d':Dt} (h:EqLs R l l') (hd:R d d'):EqLs R (l ++ [d]) (l' ++ [d']):=by
 refine⟨by simp[h.1],fun i x y hx hy=>?_⟩
 rcases Nat.lt_or_ge i l.length with g | g
 ·rw[List.getElem?_append_left g] at hx
  rw[List.getElem?_append_left (by rw[← h.1];exact g)] at hy
  exact h.2 i x y hx hy
 ·rw[List.getElem?_append_right g] at hx
  rw[List.getElem?_append_right (by rw[← h.1];exact g),← h.1] at hy
  rcases Nat.eq_zero_or_pos (i - l.length) with k | k
  ·rw[k] at hx hy
   simp at hx hy;subst hx;subst hy;exact hd
  ·rw[List.getElem?_eq_none (by simp;omega)] at hx
   cases hx
theorem OL.getD {R:Dt→Dt→Prop} {a b:Option (List Dt)} (h:OL R a b):EqLs R (a.getD []) (b.getD []):=by
 cases a <;> cases b
 ·exact EqLs.nil
 ·exact h.elim
 ·exact h.elim
 ·exact h
theorem OD.some {R:Dt→Dt→Prop} {d:Dt} {b:Option Dt} (h:OD R (some d) b):∃ d',b=some d'∧R d d':=by
 cases b with
 | none=>exact h.elim
 | some d'=>exact⟨d',rfl,h⟩
theorem OD.none {R:Dt→Dt→Prop} {b:Option Dt} (h:OD R none b):b=none:=by
 cases b with
 | none=>rfl
 | some d'=>exact h.elim
theorem zgY (E:LitR) (r:ByteArray) (n:Nat) (hG:Goes E):∀ (g:Nat) (l:List Dt) (c:Cu),c.Ok→(brkF E r n g l c).1.isSome=true→c.ix<(brkF E r n g l c).2.ix
 | 0,l,c,h,hs=>by cases hs
 | g+1,l,c,h,hs=>by
  simp only[brkF] at hs ⊢
  by_cases hq:l.length<n∨c.isP r=false
  ·rw[if_pos hq] at hs ⊢
   cases he:(E c).1 with
   | none=>rw[he] at hs;cases hs
   | some d =>
    rw[he] at hs;exact Nat.lt_of_le_of_lt (hG c h).1.ix (zgY E r n hG g _ _ (hG c h).1.ok hs)
  ·rw[if_neg hq]
   have hp:c.isP r=true:=by
    cases hp:c.isP r with
    | true=>rfl
    | false=>exact absurd (.inr hp) hq
   dsimp only;rw[zcl hp];exact Nat.lt_succ_self _
section
variable {pl:Bool} {m s e:Nat} {P:Prop} {b b':Nat}
theorem Ok4.tb {Y Z:Type} {V':Y→Z→Prop} {F:Tk→Cu→Y × Cu} {F':Tk→Cu→Z × Cu} (k:∀ a a',Ok4 pl m s e (P∧EqT pl a a') V' (F a) (F' a') b b'):Ok4 pl m s e P V' (cu.bnd tokR F) (cu.bnd tokR F') b b':=by
 haveI:Nonempty Tk:=⟨Tk.zero⟩
 exact zqi.bnd k
theorem zmh {R:Dt→Dt→Prop} {E E':LitR} (hG:Goes E) (hG':Goes E') (hF:Faults E b) (h:Ok4 pl m s e True (OD R) E E' b b') {r:ByteArray} (hr:dlt (pk r) = -1) (n:Nat):∀ (g g':Nat) (l l':List Dt) (c c':Cu),c.Ok→c'.Ok→Sf pl m s e c c'→c.ts.length≤b+c.ix→c'.ts.length≤b'+c'.ix→c.ts.length≤g+c.ix→c'.ts.length≤g'+c'.ix→EqLs R l l'→(e=0∨(Inv c∧c.kd=0∧1≤c.op∧(brkF E r n g l c).2.kd=0))→((brkF E r n g l c).2.ix≤m∨((brkF E r n g l c).1.isSome=true∧(brkF E r n g l c).2.ix≤m+1))→OL R (brkF E r n g l c).1 (brkF E' r n g' l' c').1∧Sf pl m s e (brkF E r n g l c).2 (brkF E' r n g' l' c').2
 | 0,g',l,l',c,c',hc,hc',hs,hb,hb',hg,hg',hl,hP,hm=>by have:=hc.lt;omega
 | g+1,0,l,l',c,c',hc,hc',hs,hb,hb',hg,hg',hl,hP,hm=>by have:=hc'.lt;omega
 | g+1,g'+1,l,l',c,c',hc,hc',hs,hb,hb',hg,hg',hl,hP,hm=>by
  have hi:c.ix≤m:=by
   rcases hm with hm | ⟨h1,h2⟩
   ·exact Nat.le_trans (zbE hG r n (g+1) l c hc).ix hm
   ·have:=zgY E r n hG (g+1) l c hc h1
    omega
  simp only[brkF] at hP hm ⊢;rw[hs.isP hi,← hl.1]
  by_cases hq:l.length<n∨c.isP r=false
  ·rw[if_pos hq] at hP hm
   rw[if_pos hq,if_pos hq];have hgo:=hG c hc;have hgo':=hG' c' hc'
   cases he:(E c).1 with
   | none =>
    rw[he] at hP hm
    have hm1:(E c).2.ix≤m:=by
     rcases hm with hm | ⟨h1,h2⟩
     ·exact hm
     ·cases h1
    have hp1:Ps e c E:=by
     rcases hP with hP | ⟨h1,h2,h3,h4⟩
     ·exact .inl hP
     ·exact .inr ⟨h1,h2,h4⟩
    obtain⟨e1,e2⟩:=h.near trivial c c' hc hc' hs hb hb' hp1 hm1;rw[he] at e1;rw[e1.none];exact⟨trivial,e2⟩
   | some d =>
    rw[he] at hP hm;dsimp only at hP hm
    have hm1:(E c).2.ix≤m:=by
     rcases hm with hm | ⟨h1,h2⟩
     ·exact Nat.le_trans (zbE hG r n g _ _ hgo.1.ok).ix hm
     ·have:=zgY E r n hG g _ _ hgo.1.ok h1
      omega
    have hk0:e=0∨(E c).2.kd=0:=by
     rcases hP with hP | ⟨h1,h2,h3,h4⟩
     ·exact .inl hP
     ·refine .inr (Classical.byContradiction fun x=>?_)
      rw[zc1 h.o.sti r n x] at h4;exact x h4
    have hp1:Ps e c E:=by
     rcases hP with hP | ⟨h1,h2,h3,h4⟩
     ·exact .inl hP
     ·rcases hk0 with hk0 | hk0
      ·exact .inl hk0
      ·exact .inr ⟨h1,h2,hk0⟩
    obtain⟨e1,e2⟩:=h.near trivial c c' hc hc' hs hb hb' hp1 hm1;rw[he] at e1;obtain⟨d',he',hR⟩:=e1.some;rw[he'];have i1:=hgo.2 (by rw[he];rfl)
    have i2:=hgo'.2 (by rw[he'];rfl)
    refine zmh hG hG' hF h hr n g g' (l ++ [d]) (l' ++ [d']) _ _ hgo.1.ok hgo'.1.ok e2 (by rw[hgo.1.ts];omega) (by rw[hgo'.1.ts];omega) (by rw[hgo.1.ts];omega) (by rw[hgo'.1.ts];omega) (hl.snoc hR) ?_ hm
    rcases hP with hP | ⟨h1,h2,h3,h4⟩
    ·exact .inl hP
    ·rcases hk0 with hk0 | hk0
     ·exact .inl hk0
     ·obtain⟨o1,i3⟩:=h.o.bal c hc hb h1 h2 hk0
      exact .inr ⟨i3,hk0,by omega,h4⟩
  ·rw[if_neg hq] at hP
   rw[if_neg hq,if_neg hq];refine⟨hl,hs.cls hi r ?_⟩
   rcases hP with hP | ⟨h1,h2,h3,h4⟩
   ·exact .inl hP
   ·exact .inr h3
theorem zo5 {R:Dt→Dt→Prop} {E E':LitR} (hG:Goes E) (hG':Goes E') (hF:Faults E b) (h:Ok4 pl m s e True (OD R) E E' b b') {l r:ByteArray} (hl:dlt (pk l)=1) (hr:dlt (pk r) = -1) (n:Nat) (c c':Cu) (hc:c.Ok) (hc':c'.Ok) (hs:Sf pl m s e c c') (hb:c.ts.length≤b+1+c.ix) (hb':c'.ts.length≤b'+1+c'.ix) (hP:Ps e c (brk E l r n)) (hm:(brk E l r n c).2.ix≤m∨((brk E l r n c).1.isSome=true∧(brk E l r n c).2.ix≤m+1)):OL R (brk E l r n c).1 (brk E' l r n c').1∧Sf pl m s e (brk E l r n c).2 (brk E' l r n c').2:=by
 have hgo:=zaH hG l r n c hc
 have hi:c.ix≤m:=by
  rcases hm with hm | ⟨h1,h2⟩
  ·exact Nat.le_trans hgo.1.ix hm
  ·have:=hgo.2 h1
   omega
 have ho:=zau hc l;have ho':=zau hc' l;have eB:=hs.opB hi l;have eS:=hs.opn hi l;unfold Ps at hP;unfold brk at hP hm ⊢;rw[eB]
 by_cases hB:c.opB l=true
 ·rw[if_pos hB] at hP hm
  rw[if_pos hB,if_pos hB];have x1:=zaL hB;have x2:=zaL (show c'.opB l=true by rw[eB];exact hB)
  refine zmh hG hG' hF h hr n _ _ [] [] _ _ ho.ok ho'.ok eS (by rw[ho.ts,x1];omega) (by rw[ho'.ts,x2];omega) (by rw[ho.ts];omega) (by rw[ho'.ts];omega) EqLs.nil ?_ hm
  rcases hP with hP | ⟨h1,h2,h3⟩
  ·exact .inl hP
  ·obtain⟨q1,q2,q3⟩:=zbQ hB
   exact .inr ⟨zdz hl hB h1,by rw[q3];exact h2,by rw[q3];exact Nat.succ_le_succ (Nat.zero_le _),h3⟩
 ·rw[if_neg hB,if_neg hB]
  exact⟨trivial,eS⟩
theorem zk4 {R:Dt→Dt→Prop} {E E':LitR} (hG:Goes E) (hG':Goes E') (hF:Faults E b) (h:Ok4 pl m s e True (OD R) E E' b b') {l r:ByteArray} (hl:dlt (pk l)=1) (hr:dlt (pk r) = -1) (n:Nat):Ok4 pl m s e P (OL R) (brk E l r n) (brk E' l r n) (b+1) (b'+1):=
 ⟨zjg hG hF h.o hl hr n,(zaH hG' l r n).st,fun hp c c' hc hc' hs hb hb' hP hm=>zo5 hG hG' hF h hl hr n c c' hc hc' hs hb hb' hP (.inl hm)⟩
theorem zcb (f:Nat) {k:Int} {tx:ByteArray} {bl:Bool} {a c a' c':Int} (h:pl=true→a=a'∧c=c'):EqL pl (f+1) (litD k tx bl .nil .nil a c) (litD k tx bl .nil .nil a' c'):=
 ⟨k,tx,bl,[],[],[],[],a,c,a',c',rfl,rfl,h,rfl,rfl,fun i x y hx=>by simp at hx,fun i x y hx=>by simp at hx⟩
theorem zoQ (f:Nat) {t t':Tk} (h:EqT pl t t'):EqL pl (f+1) (wordD t) (wordD t'):=by
 unfold wordD;rw[h.2.1]
 split
 ·exact zcb f h.2.2.2
 ·split
  ·exact zcb f h.2.2.2
  ·exact zcb f h.2.2.2
theorem zmd {f:Nat} {L L':LitR} (h:Ok4 pl m s e True (OD (EqL pl f)) L L' b b'):Ok4 pl m s e P (OD (EqA pl f)) (argS L) (argS L') b b':=by
 rw[zc0,zc0]
 exact Ok4.tb fun t t'=>nR_4.bnd fun _ _=>(zeM _ zdH).bnd fun _ _=>h.wk.bnd fun r r'=>zaX fun hp=>hp.2.map fun x y hxy=>by
  have ht:=hp.1.1.1.2;rw[ht.2.1];exact⟨t.tx,x,y,_,_,_,_,rfl,rfl,ht.2.2.2,hxy⟩
theorem zpN {f:Nat} {L L':LitR} (hG:Goes L) (hG':Goes L') (hF:Faults L b) (h:Ok4 pl m s e True (OD (EqL pl f)) L L' b b') (ct:Bool):Ok4 pl m s e P (OD (EqL pl (f+1))) (litS L ct) (litS L' ct) (b+1) (b'+1):=by
 rw[zeu,zeu];refine zfg.bnd fun al al'=>za5 (fun hp=>hp.2) (Ok4.tb fun t t'=>?_) (zaX fun _=>trivial)
 have hK:∀ {P':Prop} (k:Int) {v v':Dt},k ≠ 0→k ≠ 1→k ≠ 2→(P'→EqL pl (f+1) v v')→Ok4 pl m s e P' (OD (EqL pl (f+1))) (bnd (takeK k) fun _=>ret (some v)) (bnd (takeK k) fun _=>ret (some v')) (b+1) (b'+1):=fun {P'} k {v v'} h0 h1 h2 hv=>(zoG k h0 h1 h2).bnd fun _ _=>zaX fun hp=>hv hp.1
 have hk:∀ {Q:Prop} (k:Int),((Q∧EqT pl t t')→decide (t.k=k)=decide (t'.k=k)):=fun k hp=>by rw[hp.2.1]
 unfold litT
 refine za5 (hk 4) (hK 4 (by decide) (by decide) (by decide) fun hp=>?_) (za5 (hk 5) (hK 5 (by decide) (by decide) (by decide) fun hp=>?_) (za5 (hk 6) (hK 6 (by decide) (by decide) (by decide) fun hp=>?_) (za5 (hk 7) (hK 7 (by decide) (by decide) (by decide) fun hp=>?_) (za5 (hk 3) (hK 3 (by decide) (by decide) (by decide) fun hp=>zoQ f hp.2)
  ((zen _).bnd fun q q'=>za5 (fun hp=>by rw[hp.2]) ((zcJ _ zmz).bnd fun _ _=>nR_4.bnd fun n n'=>zaX fun hp=>?_)
  ((zen _).bnd fun q q'=>za5 (fun hp=>hp.2) ((zk4 hG hG' hF h ziI zlm 0).bnd fun r r'=>zaX fun hp=>hp.2.map fun x y hxy=>?_)
  ((zen _).bnd fun q q'=>za5 (fun hp=>hp.2) ((zk4 (zas hG) (zas hG') (za1 b hF) (zmd h) zeS zeT 0).bnd fun r r'=>zaX fun hp=>hp.2.map fun x y hxy=>?_)
  (zfU fun _=>trivial))))))))
 ·rw[hp.2.2.1];exact zcb f hp.2.2.2.2
 ·rw[hp.2.2.1];exact zcb f hp.2.2.2.2
 ·rw[hp.2.2.2.1];exact zcb f hp.2.2.2.2
 ·rw[hp.2.2.2.1];exact zcb f hp.2.2.2.2
 ·obtain⟨⟨⟨⟨_,ht⟩,_⟩,_⟩,rfl⟩:=hp
  cases n.1
  ·trivial
  ·exact zcb f ht.2.2.2
 ·have ht:=hp.1.1.1.2
  exact⟨8,em,false,x,y,[],[],_,_,_,_,rfl,rfl,ht.2.2.2,hxy.1,rfl,hxy.2,fun i x y hx=>by simp at hx⟩
 ·have ht:=hp.1.1.1.1.2
  exact⟨9,em,false,[],[],x,y,_,_,_,_,rfl,rfl,ht.2.2.2,rfl,hxy.1,(fun i x y hx=>by simp at hx),hxy.2⟩
theorem zjZ (ct:Bool):∀ (f f':Nat),Ok4 pl m s e True (OD (EqL pl f)) (litF ct f) (litF ct f') f f'
 | 0,f'=>⟨zgq ct 0,(zaj ct f').st,fun hp c c' hc hc' hs hb=>by have:=hc.lt;omega⟩
 | f+1,0=>⟨zgq ct (f+1),(zaj ct 0).st,fun hp c c' hc hc' hs hb hb'=>by have:=hc'.lt;omega⟩
 | f+1,f'+1=>zpN (zaj ct f) (zaj ct f') (zaQ ct f) (zjZ ct f f') ct
end
section
variable {pl:Bool} {m s e:Nat} {P:Prop} {b b':Nat} {f:Nat} {L L':LitR}
theorem znj (hG:Goes L) (hG':Goes L') (hF:Faults L b) (h:Ok4 pl m s e True (OD (EqL pl f)) L L' b b'):Ok4 pl m s e P (OL (EqA pl f)) (argsS L) (argsS L') b b':=by
 rw[zbD,zbD]
 exact (zen _).bnd fun q q'=>za5 (fun hp=>hp.2) ((zk4 (zas hG) (zas hG') (za1 b hF) (zmd h) ziJ ziK 1).mono (Nat.le_succ _) (Nat.le_succ _)) (zfg.bnd fun a a'=>zaX fun hp=>by
  obtain⟨_,rfl⟩:=hp
  cases a
  ·trivial
  ·exact EqLs.nil)
theorem zpl (hG:Goes L) (hG':Goes L') (hF:Faults L b) (h:Ok4 pl m s e True (OD (EqL pl f)) L L' b b'):Ok4 pl m s e P (OD (EqR pl f)) (dirB L) (dirB L') b b':=
 Ok4.tb fun t t'=>(zcJ _ zlk).bnd fun _ _=>nR_4.bnd fun n n'=>(znj hG hG' hF h).bnd fun r r'=>zaX fun hp=>hp.2.map fun x y hxy=>by
  obtain⟨⟨⟨⟨_,ht⟩,_⟩,rfl⟩,_⟩:=hp;exact⟨n.2,x,y,_,_,_,_,rfl,rfl,ht.2.2.2,hxy⟩
theorem zjy (hG:Goes L) (hG':Goes L') (hF:Faults L b) (o:Ok4 pl m s e True (OD (EqR pl f)) (dirB L) (dirB L') b b'):∀ (g g':Nat) (l l':List Dt) (c c':Cu),c.Ok→c'.Ok→Sf pl m s e c c'→c.ts.length≤b+c.ix→c'.ts.length≤b'+c'.ix→c.ts.length≤g+c.ix→c'.ts.length≤g'+c'.ix→EqLs (EqR pl f) l l'→Ps e c (dirsF L g l)→(dirsF L g l c).2.ix≤m→OL (EqR pl f) (dirsF L g l c).1 (dirsF L' g' l' c').1∧Sf pl m s e (dirsF L g l c).2 (dirsF L' g' l' c').2
 | 0,g',l,l',c,c',hc,hc',hs,hb,hb',hg,hg',hl,hP,hm=>by have:=hc.lt;omega
 | g+1,0,l,l',c,c',hc,hc',hs,hb,hb',hg,hg',hl,hP,hm=>by have:=hc'.lt;omega
 | g+1,g'+1,l,l',c,c',hc,hc',hs,hb,hb',hg,hg',hl,hP,hm=>by
  have hi:c.ix≤m:=Nat.le_trans (zby hG (g+1) l c hc).ix hm;unfold Ps at hP;simp only[dirsF] at hP hm ⊢;rw[hs.isP hi]
  by_cases hp:c.isP bAt=true
  ·rw[if_pos hp] at hP hm
   rw[if_pos hp,if_pos hp];have hp':c'.isP bAt=true:=by rw[hs.isP hi];exact hp
   have hgo:=zbd hG hc hp;have hgo':=zbd hG' hc' hp';have eq1:dirB L c=dirS L c:=(zbm L c hp).symm;have eq2:dirB L' c'=dirS L' c':=(zbm L' c' hp').symm;have hnear:=o.near trivial c c' hc hc' hs hb hb';have hbal:=o.o.bal c hc hb;unfold Ps at hnear;rw[eq1,eq2] at hnear;rw[eq1] at hbal
   cases he:(dirS L c).1 with
   | none =>
    rw[he] at hP hm;obtain⟨e1,e2⟩:=hnear hP hm;rw[he] at e1;rw[e1.none];exact⟨trivial,e2⟩
   | some d =>
    rw[he] at hP hm;dsimp only at hP hm;have hm1:(dirS L c).2.ix≤m:=Nat.le_trans (zby hG g _ _ hgo.1.ok).ix hm
    have hk0:e=0∨(dirS L c).2.kd=0:=by
     rcases hP with hP | ⟨h1,h2,h4⟩
     ·exact .inl hP
     ·refine .inr (Classical.byContradiction fun x=>?_)
      rw[zbx L x] at h4;exact x h4
    have hp1:e=0∨(Inv c∧c.kd=0∧(dirS L c).2.kd=0):=by
     rcases hP with hP | ⟨h1,h2,h4⟩
     ·exact .inl hP
     ·rcases hk0 with hk0 | hk0
      ·exact .inl hk0
      ·exact .inr ⟨h1,h2,hk0⟩
    obtain⟨e1,e2⟩:=hnear hp1 hm1;rw[he] at e1;obtain⟨d',he',hR⟩:=e1.some;rw[he'];have i1:=hgo.2;have i2:=hgo'.2;refine zjy hG hG' hF o g g' (l ++ [d]) (l' ++ [d']) _ _ hgo.1.ok hgo'.1.ok e2 (by rw[hgo.1.ts];omega) (by rw[hgo'.1.ts];omega) (by rw[hgo.1.ts];omega) (by rw[hgo'.1.ts];omega) (hl.snoc hR) ?_ hm
    rcases hP with hP | ⟨h1,h2,h4⟩
    ·exact .inl hP
    ·rcases hk0 with hk0 | hk0
     ·exact .inl hk0
     ·exact .inr ⟨(hbal h1 h2 hk0).2,hk0,h4⟩
  ·rw[if_neg hp,if_neg hp]
   refine⟨?_,hs⟩
   show OL _ (if c.kd=0 then some l else none) (if c'.kd=0 then some l' else none)
   rw[hs.kd]
   split
   ·exact hl
   ·trivial
theorem zpt (hG:Goes L) (hG':Goes L') (hF:Faults L b) (h:Ok4 pl m s e True (OD (EqL pl f)) L L' b b'):Ok4 pl m s e P (OL (EqR pl f)) (dirs L) (dirs L') b b':=
 ⟨zmx hG hF h.o,zaI hG',fun hp c c' hc hc' hs hb hb' hP hm=>zjy hG hG' hF (zpl hG hG' hF h) _ _ [] [] c c' hc hc' hs hb hb' (by omega) (by omega) EqLs.nil hP hm⟩
theorem zqq {T T':TypR} (hF:Faults T b) (h:Ok4 pl m s e True Eq T T' b b'):Ok4 pl m s e P Eq (bnd (opnR bLb) fun o=>cond o (unmI T) (ret none)) (bnd (opnR bLb) fun o=>cond o (unmI T') (ret none)) (b+1) (b'+1):=by
 refine⟨zkQ hF h.o,(zdy bLb).bnd fun o=>zaK (zeL h.st') (zam _),fun hp c c' hc hc' hs hb hb' hP hm=>?_⟩
 have eq:∀ (T:TypR) (c:Cu),(bnd (opnR bLb) fun o=>cond o (unmI T) (ret none)) c=cond (c.opB bLb) (unmI T) (ret none) (c.opn bLb):=fun T c=>rfl
 have ho:=zau hc bLb;have ho':=zau hc' bLb;have hst:=(zkQ (M:=0) hF h.o).st c hc;have hi:c.ix≤m:=Nat.le_trans hst.ix hm;unfold Ps at hP;rw[eq] at hP hm;rw[eq,eq,hs.opB hi];have eS:=hs.opn hi bLb
 by_cases hB:c.opB bLb=true
 ·rw[hB] at hP hm ⊢
  simp only[cond_true] at hP hm ⊢;rw[zcY] at hP hm;rw[zcY,zcY];have x1:=zaL hB;have x2:=zaL (show c'.opB bLb=true by rw[hs.opB hi];exact hB)
  have hb1:(c.opn bLb).ts.length≤b+(c.opn bLb).ix:=by rw[ho.ts,x1];omega
  have hb2:(c'.opn bLb).ts.length≤b'+(c'.opn bLb).ix:=by rw[ho'.ts,x2];omega
  obtain⟨q1,q2,q3⟩:=zbQ hB;have sT:=h.o.st _ ho.ok
  cases hq:(T (c.opn bLb)).1 with
  | none =>
   rw[hq] at hP hm
   have hP1:Ps e (c.opn bLb) T:=by
    rcases hP with hP | ⟨h1,h2,h3⟩
    ·exact .inl hP
    ·exact absurd h3 (hF _ ho.ok hb1 hq)
   obtain⟨e1,e2⟩:=h.near trivial _ _ ho.ok ho'.ok eS hb1 hb2 hP1 hm;rw[← e1,hq];exact⟨rfl,e2⟩
  | some it =>
   rw[hq] at hP hm;dsimp only at hP hm;have hm1:(T (c.opn bLb)).2.ix≤m:=Nat.le_trans (zbv sT.ok bRb).ix hm
   have hk0:e=0∨(T (c.opn bLb)).2.kd=0:=by
    rcases hP with hP | ⟨h1,h2,h3⟩
    ·exact .inl hP
    ·refine .inr (Classical.byContradiction fun x=>?_)
     have:(T (c.opn bLb)).2.cls bRb=(T (c.opn bLb)).2:=by unfold Cu.cls;rw[zaJ x];exact zaA _ _ x
     rw[this] at h3;exact x h3
   have hP1:Ps e (c.opn bLb) T:=by
    rcases hP with hP | ⟨h1,h2,h3⟩
    ·exact .inl hP
    ·rcases hk0 with hk0 | hk0
     ·exact .inl hk0
     ·exact .inr ⟨zdz ziI hB h1,by rw[q3];exact h2,hk0⟩
   obtain⟨e1,e2⟩:=h.near trivial _ _ ho.ok ho'.ok eS hb1 hb2 hP1 hm1;rw[← e1,hq];dsimp only;rw[e2.isP hm1];refine⟨rfl,e2.cls hm1 bRb ?_⟩
   rcases hP1 with hP1 | ⟨h1,h2,h3⟩
   ·exact .inl hP1
   ·obtain⟨o1,i1⟩:=h.o.bal _ ho.ok hb1 h1 h2 h3
    right
    rw[o1,q3];exact Nat.succ_le_succ (Nat.zero_le _)
 ·have hB':c.opB bLb=false:=by simpa using hB
  rw[hB'];exact⟨rfl,eS⟩
theorem zrF {T T':TypR} (hF:Faults T b) (h:Ok4 pl m s e True Eq T T' b b'):Ok4 pl m s e P Eq (unm T) (unm T') (b+1) (b'+1):=by
 rw[zdO,zdO];exact (zen _).bnd fun q q'=>za5 (fun hp=>hp.2) (zqq hF h) (nR_4.bnd fun n n'=>zaX fun hp=>by rw[hp.2])
theorem zkL:∀ (f f':Nat),Ok4 pl m s e True Eq (typF f) (typF f') f f'
 | 0,f'=>⟨zgS 0,zaU f',fun hp c c' hc hc' hs hb=>by have:=hc.lt;omega⟩
 | f+1,0=>⟨zgS (f+1),zaU 0,fun hp c c' hc hc' hs hb hb'=>by have:=hc'.lt;omega⟩
 | f+1,f'+1=>by
  show Ok4 pl m s e True Eq (typ (unm (typF f))) (typ (unm (typF f'))) (f+1) (f'+1)
  rw[zeK,zeK];refine (zrF (zcX f) (zkL f f')).bnd fun r r'=>?_
  have h1:∀ (P':Prop) (r:ByteArray × ByteArray),Ok4 pl m s e P' Eq (bnd (punctR bBang) fun q=>ret (some (cond q (r.1,r.2 ++ bBang) r))) (bnd (punctR bBang) fun q=>ret (some (cond q (r.1,r.2 ++ bBang) r))) (f+1) (f'+1):=fun P' r=>(zcJ _ zjB).bnd fun q q'=>zaX fun hp=>by rw[hp.2]
  cases r with
  | none =>
   cases r' with
   | none=>exact zaX fun _=>rfl
   | some r'=>exact⟨zaM _,(h1 True r').st',fun hp=>by cases hp.2⟩
  | some r =>
   cases r' with
   | none=>exact⟨(h1 True r).o,zam _,fun hp=>by cases hp.2⟩
   | some r' =>
    refine⟨(h1 True r).o,(h1 True r').st',fun hp=>?_⟩
    obtain rfl:=Option.some.inj hp.2;exact (h1 True r).near trivial
end
open lx (toks chs cln tksG tkG)
section
variable {pl:Bool} {m s e:Nat} {P:Prop} {b b':Nat} {f:Nat} {L L' K K':LitR}
theorem OD.getD {R:Dt→Dt→Prop} {a b:Option Dt} {z z':Dt} (h:OD R a b) (hz:R z z'):R (a.getD z) (b.getD z'):=by
 cases a <;> cases b
 ·exact hz
 ·exact h.elim
 ·exact h.elim
 ·exact h
theorem zg0 {R:Dt→Dt→Prop} {D D':LitR} (hG:Goes D) (hG':Goes D') (h:Ok4 pl m s 0 True (OD R) D D' b b') (q:List Dt):∀ (g g':Nat) (l l':List Dt) (c c':Cu),c.Ok→c'.Ok→Sf pl m s 0 c c'→c.ts.length≤b+c.ix→c'.ts.length≤b'+c'.ix→c.ts.length≤g+c.ix→c'.ts.length≤g'+c'.ix→EqLs R l l'→(q=[]∨l ≠ []∨c.tok.k ≠ 0)→(defsF D g l c).2.ix≤m→((∃ r r',(defsF D g l c).1=some r∧(defsF D' g' (q ++ l') c').1=some (q ++ r')∧EqLs R r r')∨((defsF D g l c).1=none∧(defsF D' g' (q ++ l') c').1=none))∧Sf pl m s 0 (defsF D g l c).2 (defsF D' g' (q ++ l') c').2
 | 0,g',l,l',c,c',hc,hc',hs,hb,hb',hg,hg',hl,hq,hm=>by have:=hc.lt;omega
 | g+1,0,l,l',c,c',hc,hc',hs,hb,hb',hg,hg',hl,hq,hm=>by have:=hc'.lt;omega
 | g+1,g'+1,l,l',c,c',hc,hc',hs,hb,hb',hg,hg',hl,hq,hm=>by
  have hi:c.ix≤m:=Nat.le_trans (zco hG (g+1) l c hc).ix hm;simp only[defsF] at hm ⊢;have ht:=hs.tok hi
  have hcond:(l.length=0∨c.tok.k ≠ 0) ↔ ((q ++ l').length=0∨c'.tok.k ≠ 0):=by
   rw[ht.1,List.length_append,← hl.1]
   constructor
   ·rintro (x | x)
    ·rcases hq with hq | hq | hq
     ·left;rw[hq,x];rfl
     ·exact absurd (List.length_eq_zero_iff.1 x) hq
     ·exact .inr hq
    ·exact .inr x
   ·rintro (x | x)
    ·left;omega
    ·exact .inr x
  by_cases hx:l.length=0∨c.tok.k ≠ 0
  ·rw[if_pos hx] at hm
   rw[if_pos hx,if_pos (hcond.1 hx)];have hgo:=hG c hc;have hgo':=hG' c' hc'
   have hm1:(D c).2.ix≤m:=by
    cases he:(D c).1 with
    | none=>rw[he] at hm;exact hm
    | some d=>rw[he] at hm;exact Nat.le_trans (zco hG g _ _ hgo.1.ok).ix hm
   obtain⟨e1,e2⟩:=h.near trivial c c' hc hc' hs hb hb' (.inl rfl) hm1
   cases he:(D c).1 with
   | none =>
    rw[he] at e1;rw[e1.none];exact⟨.inr ⟨rfl,rfl⟩,e2⟩
   | some d =>
    rw[he] at e1 hm;obtain⟨d',he',hR⟩:=e1.some;rw[he'];have i1:=hgo.2 (by rw[he];rfl)
    have i2:=hgo'.2 (by rw[he'];rfl)
    have ih:=zg0 hG hG' h q g g' (l ++ [d]) (l' ++ [d']) _ _ hgo.1.ok hgo'.1.ok e2 (by rw[hgo.1.ts];omega) (by rw[hgo'.1.ts];omega) (by rw[hgo.1.ts];omega) (by rw[hgo'.1.ts];omega) (hl.snoc hR) (.inr (.inl (by simp))) hm
    dsimp only;rw[List.append_assoc];exact ih
  ·rw[if_neg hx,if_neg (fun y=>hx (hcond.2 y))]
   refine⟨?_,hs.fin hi⟩
   dsimp only;rw[hs.finB hi]
   cases c.finB
   ·exact .inr ⟨rfl,rfl⟩
   ·exact .inl ⟨l,l',rfl,rfl,hl⟩
end
def EqNm (pl:Bool) (x y:Nm):Prop:=x.1=y.1∧(pl=true→x.2.1=y.2.1∧x.2.2=y.2.2)
def EqN (pl:Bool) (x y:Dt):Prop:=∃ a b:Nm,x=namD a∧y=namD b∧EqNm pl a b
def EqI (pl:Bool) (f:Nat) (x y:Dt):Prop:=∃ n m m' tn tw hd v v' ds ds',x=inpD n m tn tw hd v ds∧y=inpD n m' tn tw hd v' ds'∧EqNm pl m m'∧EqL pl f v v'∧EqLs (EqR pl f) ds ds'
def EqFd (pl:Bool) (f:Nat) (x y:Dt):Prop:=∃ n m m' al al' tn tw ds ds',x=fdD n m al tn tw ds∧y=fdD n m' al' tn tw ds'∧EqNm pl m m'∧EqLs (EqI pl f) al al'∧EqLs (EqR pl f) ds ds'
def EqC (pl:Bool) (f:Nat) (x y:Dt):Prop:=∃ n m m' ds ds',x=choD n m ds∧y=choD n m' ds'∧EqNm pl m m'∧EqLs (EqR pl f) ds ds'
def EqRt (pl:Bool) (x y:Dt):Prop:=∃ k ty a b a' b',x=rooD k ty a b∧y=rooD k ty a' b'∧(pl=true→a=a'∧b=b')
structure EqY (pl:Bool) (f:Nat) (s s':Sy):Prop where
 k:s.k=s'.k
 ex:s.ex=s'.ex
 n:s.n=s'.n
 nm:s.nm=s'.nm
 ifs:EqLs (EqN pl) s.ifs s'.ifs
 ds:EqLs (EqR pl f) s.ds s'.ds
 fs:EqLs (EqFd pl f) s.fs s'.fs
 ins:EqLs (EqI pl f) s.ins s'.ins
 ms:EqLs (EqN pl) s.ms s'.ms
 vs:EqLs (EqC pl f) s.vs s'.vs
 rs:EqLs (EqRt pl) s.rs s'.rs
 rp:s.rp=s'.rp
 ps:EqLs (EqN pl) s.ps s'.ps
 pos:pl=true→s.ln=s'.ln∧s.co=s'.co
def EqD (pl:Bool) (f:Nat) (x y:Dt):Prop:=∃ s s':Sy,x=s.d∧y=s'.d∧EqY pl f s s'
theorem zka {pl:Bool} {t t':Tk} (h:EqT pl t t') (so:Bool):EqNm pl (nm3 t so) (nm3 t' so):=by
 cases so
 ·exact⟨rfl,fun _=>⟨rfl,rfl⟩⟩
 ·exact⟨h.2.1.symm,h.2.2.2⟩
theorem EqY.bare {pl:Bool} {f:Nat} {s s':Sy} (h:EqY pl f s s'):s.bare=s'.bare:=by
 unfold Sy.bare;rw[h.ifs.1,h.ds.1,h.fs.1,h.ins.1,h.ms.1,h.vs.1,h.rs.1]
theorem EqY.at {pl:Bool} {f:Nat} {s s':Sy} {t t':Tk} (h:EqY pl f s s') (k:Int) (ht:EqT pl t t'):EqY pl f (s.at k t) (s'.at k t'):=
 ⟨rfl,h.ex,h.n,h.nm,h.ifs,h.ds,h.fs,h.ins,h.ms,h.vs,h.rs,h.rp,h.ps,ht.2.2.2⟩
theorem EqY.of (pl:Bool) (f:Nat) (n:Nt) (x:Bool):EqY pl f (Sy.of n x) (Sy.of n x):=
 ⟨rfl,rfl,rfl,rfl,EqLs.nil,EqLs.nil,EqLs.nil,EqLs.nil,EqLs.nil,EqLs.nil,EqLs.nil,rfl,EqLs.nil,fun _=>⟨rfl,rfl⟩⟩
section
variable {pl:Bool} {m s e:Nat} {P:Prop} {b b':Nat}
theorem Ok4.imp {A X:Type} {P':Prop} {V:A→X→Prop} {E:Cu→A × Cu} {E':Cu→X × Cu} (h:Ok4 pl m s e P V E E' b b') (k:P'→P):Ok4 pl m s e P' V E E' b b':=⟨h.o,h.st',fun hp=>h.near (k hp)⟩
theorem Ok4.yb {Y Z:Type} {V:Sy→Sy→Prop} {V':Y→Z→Prop} {E E':Cu→Sy × Cu} {F:Sy→Cu→Y × Cu} {F':Sy→Cu→Z × Cu} (h:Ok4 pl m s e P V E E' b b') (k:∀ a a',Ok4 pl m s e (P∧V a a') V' (F a) (F' a') b b'):Ok4 pl m s e P V' (cu.bnd E F) (cu.bnd E' F') b b':=by
 haveI:Nonempty Sy:=⟨Sy.of (false,false,em) false⟩
 exact h.bnd k
theorem Ok4.db {Y Z:Type} {V:Dt→Dt→Prop} {V':Y→Z→Prop} {E E':Cu→Dt × Cu} {F:Dt→Cu→Y × Cu} {F':Dt→Cu→Z × Cu} (h:Ok4 pl m s e P V E E' b b') (k:∀ a a',Ok4 pl m s e (P∧V a a') V' (F a) (F' a') b b'):Ok4 pl m s e P V' (cu.bnd E F) (cu.bnd E' F') b b':=by
 haveI:Nonempty Dt:=⟨Dt.nil⟩
 exact h.bnd k
theorem Sf.isS {c c':Cu} (h:Sf pl m s e c c') (hi:c.ix≤m):c'.isS=c.isS:=by
 have t:=h.tok hi;unfold Cu.isS;rw[h.kd,t.1]
theorem ze4:Ok4 pl m s e P (EqNm pl) namR namR b b':=⟨zew,zaR,fun hp c c' hc hc' hs hb hb' hP hm=>by
 have hi:c.ix≤m:=Nat.le_trans (zar hc).ix hm;refine⟨?_,hs.name hi⟩
 show EqNm pl (nm3 c.tok c.isN) (nm3 c'.tok c'.isN)
 rw[hs.isN hi]
 exact zka (hs.tok hi) _⟩
theorem zo6 (ws:List ByteArray):Ok4 pl m s e P (EqNm pl) (butN ws) (butN ws) b b':=⟨zmp ws,zcN ws,fun hp c c' hc hc' hs hb hb' hP hm=>by
 have hi:c.ix≤m:=Nat.le_trans (zcN ws c hc).ix hm;refine⟨?_,?_⟩
 ·show EqNm pl (nm3 c.tok _) (nm3 c'.tok _)
  rw[hs.isN hi,(hs.tok hi).2.1];exact zka (hs.tok hi) _
 ·show Sf pl m s e (c.nmC _) (c'.nmC _)
  rw[hs.isN hi,(hs.tok hi).2.1]
  exact hs.nmC _⟩
theorem zqu (ws:List ByteArray):Ok4 pl m s e P (EqNm pl) (wwN ws) (wwN ws) b b':=⟨zoS ws,zcM ws,fun hp c c' hc hc' hs hb hb' hP hm=>by
 have hi:c.ix≤m:=Nat.le_trans (zcM ws c hc).ix hm;refine⟨?_,?_⟩
 ·show EqNm pl (nm3 c.tok _) (nm3 c'.tok _)
  rw[hs.isW hi];exact zka (hs.tok hi) _
 ·show Sf pl m s e (c.nmC _) (c'.nmC _)
  rw[hs.isW hi]
  exact hs.nmC _⟩
theorem zfG:Ok4 pl m s e P Eq noteR noteR b b':=⟨zey,zaE,fun hp c c' hc hc' hs hb hb' hP hm=>by
 have hi:c.ix≤m:=Nat.le_trans (zaE c hc).ix hm;have t:=hs.tok hi;unfold noteR;rw[hs.isS hi,t.1,t.2.2.1]
 split
 ·exact⟨rfl,hs.take⟩
 ·exact⟨rfl,hs⟩⟩
theorem zmX {R:Dt→Dt→Prop} {E E':Cu→Dt × Cu} (h:Ok4 pl m s e P R E E' b b'):Ok4 pl m s e P (OD R) (optR E) (optR E') b b':=h.db fun d d'=>zfg.bnd fun a a'=>zaX fun hp=>by
 obtain⟨⟨_,hR⟩,rfl⟩:=hp
 cases a
 ·trivial
 ·exact hR
theorem zml {R:Dt→Dt→Prop} {E E':Cu→Dt × Cu} (hG:Goes (optR E)) (hG':Goes (optR E')) (h:Ok4 pl m s e True R E E' b b') {l r:ByteArray} (hl:dlt (pk l)=1) (hr:dlt (pk r) = -1):Ok4 pl m s e P (EqLs R) (brkT E l r) (brkT E' l r) b b':=
 ((zk4 hG hG' (zeA b) (zmX h) hl hr 1).mono (Nat.le_succ _) (Nat.le_succ _)).bnd fun x x'=>zaX fun hp=>hp.2.getD
theorem zgw {R:Dt→Dt→Prop} {E E':Cu→Dt × Cu} (hG:Goes (optR E)) (hG':Goes (optR E')) (h:Ok4 pl m s e True R E E' b b') {l r:ByteArray} (hl:dlt (pk l)=1) (hr:dlt (pk r) = -1):Ok4 pl m s e P (EqLs R) (optT E l r) (optT E' l r) b b':=
 (zen l).bnd fun q q'=>za5 (fun hp=>hp.2) (zml hG hG' h hl hr) (zaX fun _=>EqLs.nil)
theorem zrd {X Z:Type} {V:X→Z→Prop} {p:ByteArray} (hp:dlt (pk p)=0) {F:Bool→Cu→X × Cu} {F':Bool→Cu→Z × Cu} (o:∀ q,Ok3 0 (F q) (b+1)) (k:Ok4 pl m s e P V (F true) (F' true) b b') (k0:Ok4 pl m s e P V (F false) (F' false) (b+1) (b'+1)):Ok4 pl m s e P V (bnd (punctR p) F) (bnd (punctR p) F') (b+1) (b'+1):=by
 refine⟨(zbe p hp).bnd o,(zap p).bnd fun q=>by cases q;exact k0.st';exact k.st',fun hP' c c' hc hc' hs hb hb' hP hm=>?_⟩
 have s1:=zaT hc p;have s2:=zaT hc' p;have hm':(F (c.isP p) (c.punct p)).2.ix≤m:=hm;have hi:c.ix≤m:=Nat.le_trans s1.ix (Nat.le_trans ((o (c.isP p)).st _ s1.ok).ix hm');have e1:=hs.isP hi p;have eS:=hs.punct hi p;have hP2:Ps e (c.punct p) (F (c.isP p)):=hP.two (zbe (M:=0) (b:=b+1) p hp) (fun a=>(o a).sti) hc hb
 show V (F (c.isP p) (c.punct p)).1 (F' (c'.isP p) (c'.punct p)).1∧Sf pl m s e (F (c.isP p) (c.punct p)).2 (F' (c'.isP p) (c'.punct p)).2
 rw[e1]
 cases hq:c.isP p
 ·rw[hq] at hm' hP2
  exact k0.near hP' _ _ s1.ok s2.ok eS (by rw[s1.ts];have:=s1.ix;omega) (by rw[s2.ts];have:=s2.ix;omega) hP2 hm'
 ·rw[hq] at hm' hP2 e1
  have x1:(c.punct p).ix=c.ix+1:=by unfold Cu.punct;rw[if_pos hq];rfl
  have x2:(c'.punct p).ix=c'.ix+1:=by unfold Cu.punct;rw[if_pos e1];rfl
  exact k.near hP' _ _ s1.ok s2.ok eS (by rw[s1.ts,x1];omega) (by rw[s2.ts,x2];omega) hP2 hm'
theorem zmZ {k:ByteArray} (hk:dlt (pk k)=0) {E E':Cu→Nm × Cu} (hE:∀ (P:Prop) (b b':Nat),Ok4 pl m s e P (EqNm pl) E E' b b'):∀ (g g':Nat) (P:Prop) (l l':List Dt),(P→EqLs (EqN pl) l l')→Ok4 pl m s e P (EqLs (EqN pl)) (parF E k g l) (parF E' k g' l') g g'
 | 0,g',P,l,l',hl=>⟨zgz hk (hE True 0 0).o 0 l,zce (hE True 0 0).st' k g' l',fun hp c c' hc hc' hs hb=>by have:=hc.lt;omega⟩
 | g+1,0,P,l,l',hl=>⟨zgz hk (hE True (g+1) 0).o (g+1) l,zce (hE True 0 0).st' k 0 l',fun hp c c' hc hc' hs hb hb'=>by have:=hc'.lt;omega⟩
 | g+1,g'+1,P,l,l',hl=>zrd hk (F:=fun q=>cond q (cu.bnd E fun d=>parF E k g (l ++ [namD d])) (ret l)) (F':=fun q=>cond q (cu.bnd E' fun d=>parF E' k g' (l' ++ [namD d])) (ret l'))
   (fun q=>zaP ((hE True (g+1) 0).o.bnd fun d=>zgz hk (hE True (g+1) 0).o g _) (zaM l))
   (show Ok4 pl m s e P (EqLs (EqN pl)) (cu.bnd E fun d=>parF E k g (l ++ [namD d])) (cu.bnd E' fun d=>parF E' k g' (l' ++ [namD d])) g g' from (hE P g g').bnd fun d d'=>zmZ hk hE g g' _ _ _ fun hp=>(hl hp.1).snoc ⟨d,d',rfl,rfl,hp.2⟩)
   (zaX hl)
theorem zko {k:ByteArray} (hk:dlt (pk k)=0) {E E':Cu→Nm × Cu} (hE:∀ (P:Prop) (b b':Nat),Ok4 pl m s e P (EqNm pl) E E' b b') (N N':Nat):Ok4 pl m s e P (EqLs (EqN pl)) (parT N E k) (parT N' E' k) N N':=
 (zcJ k hk).bnd fun _ _=>(hE _ N N').bnd fun d d'=>zmZ hk hE N N' _ _ _ fun hp=>EqLs.snoc (l:=[]) (l':=[]) EqLs.nil ⟨d,d',rfl,rfl,hp.2⟩
end
section
variable {pl:Bool} {m s e:Nat} {P:Prop} {N:Nat} (hN:0<N) (N':Nat)
theorem zb3:Ok4 pl m s e P (OL (EqR pl N)) (dirs (litF true N)) (dirs (litF true N')) N N':=zpt (zaj true N) (zaj true N') (zaQ true N) (zjZ true N N')
include hN in
theorem zoV:EqL pl N zeroD zeroD:=by
 obtain⟨f',rfl⟩:∃ f',N=f'+1:=⟨N - 1,by omega⟩
 exact zcb f' fun _=>⟨rfl,rfl⟩
include hN in
theorem znX:Ok4 pl m s e P (EqI pl N) (inpT (typF N) (litF true N)) (inpT (typF N') (litF true N')) N N':=
 zfG.bnd fun n n'=>ze4.bnd fun x x'=>(zeM _ zdH).bnd fun _ _=>(zkL N N').wk.bnd fun ty ty'=>(zcJ _ zll).bnd fun q q'=>(za5 (V:=OD (EqL pl N)) (fun hp=>hp.2) (zjZ true N N').wk (zaX (a:=none) (x:=none) fun _=>trivial)).bnd fun v v'=>(zb3 N').bnd fun d d'=>zaX fun hp=>by
  obtain⟨⟨⟨⟨⟨⟨⟨_,rfl⟩,hm⟩,_⟩,rfl⟩,rfl⟩,hv⟩,hd⟩:=hp;exact⟨n,x,x',_,_,q,_,_,_,_,rfl,rfl,hm,hv.getD (zoV hN),hd.getD⟩
include hN in
theorem fd_4:Ok4 pl m s e P (EqFd pl N) (fdT (typF N) (litF true N)) (fdT (typF N') (litF true N')) N N':=
 zfG.bnd fun n n'=>ze4.bnd fun x x'=>(zgw (zaF N) (zaF N') (znX hN N') ziJ ziK).bnd fun al al'=>(zeM _ zdH).bnd fun _ _=>(zkL N N').wk.bnd fun ty ty'=>(zb3 N').bnd fun d d'=>zaX fun hp=>by
  obtain⟨⟨⟨⟨⟨⟨_,rfl⟩,hm⟩,ha⟩,_⟩,rfl⟩,hd⟩:=hp;exact⟨n,x,x',al,al',_,_,_,_,rfl,rfl,hm,ha,hd.getD⟩
theorem zqF:Ok4 pl m s e P (EqC pl N) (choT (litF true N)) (choT (litF true N')) N N':=
 zfG.bnd fun n n'=>(zo6 _).bnd fun x x'=>(zb3 N').bnd fun d d'=>zaX fun hp=>by
  obtain⟨⟨⟨_,rfl⟩,hm⟩,hd⟩:=hp;exact⟨n,x,x',_,_,rfl,rfl,hm,hd.getD⟩
theorem zri {b b':Nat}:Ok4 pl m s e P (EqRt pl) rooT rooT b b':=
 (zqu _).bnd fun x x'=>(zeM _ zdH).bnd fun _ _=>ze4.bnd fun y y'=>zaX fun hp=>by
  obtain⟨⟨⟨_,hx⟩,_⟩,hy⟩:=hp;refine⟨opK x.1,y.1,_,_,_,_,rfl,?_,hx.2⟩
  rw[hx.1,hy.1]
theorem ziS {b b':Nat} {y y':Sy} (h:P→EqY pl N y y'):Ok4 pl m s e P (EqY pl N) (nmdT y) (nmdT y') b b':=
 ze4.bnd fun x x'=>zaX fun hp=>by
  have h:=h hp.1;exact⟨h.k,h.ex,h.n,hp.2.1,h.ifs,h.ds,h.fs,h.ins,h.ms,h.vs,h.rs,h.rp,h.ps,hp.2.2⟩
theorem zrs {y y':Sy} (h:P→EqY pl N y y'):Ok4 pl m s e P (EqY pl N) (schT (litF true N) y) (schT (litF true N') y') N N':=
 (zb3 N').bnd fun d d'=>(zen _).bnd fun q q'=>(za5 (V:=EqLs (EqRt pl)) (fun hp=>by rw[(h hp.1.1).ex,hp.2]) (zml zdj zdj zri zeS zeT) (zaX fun _=>EqLs.nil)).bnd fun r r'=>zaX fun hp=>by
  have h:=h hp.1.1.1;exact⟨h.k,h.ex,h.n,h.nm,h.ifs,hp.1.1.2.getD,h.fs,h.ins,h.ms,h.vs,hp.2,h.rp,h.ps,h.pos⟩
theorem zrn {y y':Sy} (h:P→EqY pl N y y'):Ok4 pl m s e P (EqY pl N) (scaT (litF true N) y) (scaT (litF true N') y') N N':=
 (ziS h).yb fun y y'=>(zb3 N').bnd fun d d'=>zaX fun hp=>by
  have h:=hp.1.2;exact⟨h.k,h.ex,h.n,h.nm,h.ifs,hp.2.getD,h.fs,h.ins,h.ms,h.vs,h.rs,h.rp,h.ps,h.pos⟩
include hN in
theorem zp1 {y y':Sy} (h:P→EqY pl N y y'):Ok4 pl m s e P (EqY pl N) (objT (typF N) (litF true N) N y) (objT (typF N') (litF true N') N' y') N N':=
 (ziS h).yb fun y y'=>(zf0 _).bnd fun q q'=>(za5 (V:=EqLs (EqN pl)) (fun hp=>hp.2) (zko zmy (fun _ _ _=>ze4) N N') (zaX fun _=>EqLs.nil)).bnd fun i i'=>(zb3 N').bnd fun d d'=>(zgw (zfw N) (zfw N') (fd_4 hN N') zeS zeT).bnd fun f f'=>zaX fun hp=>by
  have h:=hp.1.1.1.1.2;exact⟨h.k,h.ex,h.n,h.nm,hp.1.1.2,hp.1.2.getD,hp.2,h.ins,h.ms,h.vs,h.rs,h.rp,h.ps,h.pos⟩
theorem zrA {y y':Sy} (h:P→EqY pl N y y'):Ok4 pl m s e P (EqY pl N) (uniT (litF true N) N y) (uniT (litF true N') N' y') N N':=
 (ziS h).yb fun y y'=>(zb3 N').bnd fun d d'=>(zcJ _ zll).bnd fun q q'=>(za5 (V:=EqLs (EqN pl)) (fun hp=>hp.2) (zko zfq (fun _ _ _=>ze4) N N') (zaX fun _=>EqLs.nil)).bnd fun i i'=>zaX fun hp=>by
  have h:=hp.1.1.1.2;exact⟨h.k,h.ex,h.n,h.nm,h.ifs,hp.1.1.2.getD,h.fs,h.ins,hp.2,h.vs,h.rs,h.rp,h.ps,h.pos⟩
theorem zqS {y y':Sy} (h:P→EqY pl N y y'):Ok4 pl m s e P (EqY pl N) (enuT (litF true N) y) (enuT (litF true N') y') N N':=
 (ziS h).yb fun y y'=>(zb3 N').bnd fun d d'=>(zgw (zc4 N) (zc4 N') (zqF N') zeS zeT).bnd fun f f'=>zaX fun hp=>by
  have h:=hp.1.1.2;exact⟨h.k,h.ex,h.n,h.nm,h.ifs,hp.1.2.getD,h.fs,h.ins,h.ms,hp.2,h.rs,h.rp,h.ps,h.pos⟩
include hN in
theorem zq1 {y y':Sy} (h:P→EqY pl N y y'):Ok4 pl m s e P (EqY pl N) (inuT (typF N) (litF true N) y) (inuT (typF N') (litF true N') y') N N':=
 (ziS h).yb fun y y'=>(zb3 N').bnd fun d d'=>(zgw (zaF N) (zaF N') (znX hN N') zeS zeT).bnd fun f f'=>zaX fun hp=>by
  have h:=hp.1.1.2;exact⟨h.k,h.ex,h.n,h.nm,h.ifs,hp.1.2.getD,h.fs,hp.2,h.ms,h.vs,h.rs,h.rp,h.ps,h.pos⟩
include hN in
theorem zpp {y y':Sy} (h:P→EqY pl N y y'):Ok4 pl m s e P (EqY pl N) (dirT (typF N) (litF true N) N y) (dirT (typF N') (litF true N') N' y') N N':=
 (zeM _ zlk).bnd fun _ _=>(ziS (P:=P∧_) fun hp=>h hp.1).yb fun y y'=>(zgw (zaF N) (zaF N') (znX hN N') ziJ ziK).bnd fun f f'=>(zf0 _).bnd fun r r'=>(zrH _).bnd fun _ _=>(zko zfq (fun _ _ _=>zqu _) N N').bnd fun p p'=>zaX fun hp=>by
  have h:=hp.1.1.1.1.2;exact⟨h.k,h.ex,h.n,h.nm,h.ifs,h.ds,h.fs,hp.1.1.1.2,h.ms,h.vs,h.rs,hp.1.1.2,hp.2,h.pos⟩
theorem kw_4 {b b':Nat} (q:ByteArray) {E E' F F':Cu→Sy × Cu} {V:Sy→Sy→Prop} (h:Ok4 pl m s e P V E E' b b') (k:Ok4 pl m s e P V F F' b b'):Ok4 pl m s e P V (kwT q E F) (kwT q E' F') b b':=
 (zf0 q).bnd fun x x'=>za5 (fun hp=>hp.2) (h.imp fun hp=>hp.1) (k.imp fun hp=>hp.1)
include hN in
theorem zq6 {y y':Sy} (h:P→EqY pl N y y'):Ok4 pl m s e P (EqY pl N) (keyT (typF N) (litF true N) N y) (keyT (typF N') (litF true N') N' y') N N':=
 Ok4.tb fun t t' =>
  kw_4 _ (zrs N' fun hp=>(h hp.1).at 1 hp.2) (kw_4 _ (zrn N' fun hp=>(h hp.1).at 2 hp.2) (kw_4 _ (zp1 hN N' fun hp=>(h hp.1).at 3 hp.2) (kw_4 _ (zp1 hN N' fun hp=>(h hp.1).at 4 hp.2) (kw_4 _ (zrA N' fun hp=>(h hp.1).at 5 hp.2) (kw_4 _ (zqS N' fun hp=>(h hp.1).at 6 hp.2) (kw_4 _ (zq1 hN N' fun hp=>(h hp.1).at 7 hp.2) (za5 (fun hp=>(h hp.1).ex) (zfU fun hp=>h hp.1) (kw_4 _ (zpp hN N' fun hp=>(h hp.1).at 8 hp.2) (zfU fun hp=>h hp.1)))))))))
include hN in
theorem zqK:Ok4 pl m s e P (EqD pl N) (defT (typF N) (litF true N) N) (defT (typF N') (litF true N') N') N N':=
 zfG.bnd fun n n'=>(za5 (V:=Eq) (fun hp=>by rw[hp.2]) (zaX fun _=>rfl) (zf0 _)).bnd fun x x'=>(zq6 (P:=(P∧n=n')∧x=x') hN N' fun hp=>by obtain⟨⟨_,rfl⟩,rfl⟩:=hp;exact EqY.of pl N n x).yb fun y y'=>za5 (fun hp=>by rw[hp.2.ex,hp.2.bare]) (zfU fun hp=>⟨y,y',rfl,rfl,hp.2⟩) (zaX fun hp=>⟨y,y',rfl,rfl,hp.2⟩)
include hN in
theorem sd_4:Ok4 pl m s e P (OD (EqD pl N)) (sdN N) (sdN N') N N':=zmX (zqK hN N')
end
section
variable {pl:Bool} {m s:Nat}
theorem zoz (c c':Cu) (hc:c.Ok) (hc':c'.Ok) (hs:Sf pl m s 0 c c') (hm:(sdocS c).2.ix≤m):((∃ r r',(sdocS c).1=some r∧(sdocS c').1=some r'∧EqLs (EqD pl c.ts.length) r r')∨((sdocS c).1=none∧(sdocS c').1=none))∧Sf pl m s 0 (sdocS c).2 (sdocS c').2:=by
 have hl:=hc.lt;exact zg0 (zeH _) (zeH _) (sd_4 (by omega) _) [] _ _ [] [] c c' hc hc' hs (by omega) (by omega) (by omega) (by omega) EqLs.nil (.inl rfl) hm
theorem zi0 (pl:Bool) (c:Cu) (hc:c.Ok) {l:List Dt} (h:(sdocS c).1=some l):EqLs (EqD pl c.ts.length) l l:=by
 have hs:Sf pl (sdocS c).2.ix 0 0 c c:=⟨rfl,rfl,rfl,rfl,fun i hi=>EqT.refl pl _⟩
 rcases (zoz c c hc hc hs (lr _)).1 with ⟨r,r',h1,h2,h3⟩ | ⟨h1,h2⟩
 ·rw[h] at h1 h2
  obtain rfl:=Option.some.inj h1;obtain rfl:=Option.some.inj h2;exact h3
 ·rw[h] at h1;cases h1
end
def Bgn (t:Tk):Prop:=t.k ≠ 2∧(t.k=3→t.tx ≠ bImpl∧t.tx ≠ bRep)
structure Sj (m:Nat) (c c':Cu):Prop where
 ix:c'.ix=c.ix
 op:c'.op=c.op
 mo:c'.mo=c.mo
 kd:c'.kd=c.kd
 ts:∀ q,q<m→c'.ts[q]? = c.ts[q]?
 le:c.ts.length=m+1
 en:(c.ts.getD m Tk.zero).k=0
 bg:Bgn (c'.ts.getD m Tk.zero)
section
variable {m:Nat} {c c':Cu}
theorem Sj.tok (h:Sj m c c') (hi:c.ix<m):c'.tok=c.tok:=by
 unfold Cu.tok;rw[h.ix,List.getD_eq_getElem?_getD,List.getD_eq_getElem?_getD,h.ts _ hi]
theorem Sj.le' (h:Sj m c c') (hc:c.Ok):c.ix≤m:=by have:=hc.lt;rw[h.le] at this;omega
theorem Sj.fin' (h:Sj m c c') (hc:c.Ok) (hi:¬ c.ix<m):c.tok.k=0∧Bgn c'.tok:=by
 have e:c.ix=m:=by have:=h.le' hc;omega
 refine⟨?_,?_⟩
 ·have:=h.en;rw[← e] at this;exact this
 ·have:=h.bg;rw[← e,← h.ix] at this;exact this
theorem Sj.isP (h:Sj m c c') (hc:c.Ok) (p:ByteArray):c'.isP p=c.isP p:=by
 unfold Cu.isP
 by_cases hi:c.ix<m
 ·rw[h.kd,h.tok hi]
 ·obtain⟨h0,h1⟩:=h.fin' hc hi
  rw[h0];simp[h1.1]
theorem Sj.isN (h:Sj m c c') (hi:c.ix<m):c'.isN=c.isN:=by unfold Cu.isN;rw[h.kd,h.tok hi]
theorem Sj.isW (h:Sj m c c') (hi:c.ix<m) (ws:List ByteArray):c'.isW ws=c.isW ws:=by unfold Cu.isW;rw[h.isN hi,h.tok hi]
theorem Sj.isS (h:Sj m c c') (hi:c.ix<m):c'.isS=c.isS:=by unfold Cu.isS;rw[h.kd,h.tok hi]
theorem Sj.noN (h:Sj m c c') (hc:c.Ok) (hi:¬ c.ix<m):c.isN=false:=by
 obtain⟨h0,_⟩:=h.fin' hc hi;unfold Cu.isN;rw[h0];simp
theorem Sj.noW (h:Sj m c c') (hc:c.Ok) (hi:¬ c.ix<m) (ws:List ByteArray):c.isW ws=false:=by unfold Cu.isW;rw[h.noN hc hi];rfl
theorem Sj.isQ (h:Sj m c c') (hc:c.Ok) {q:ByteArray} (hq:q=bImpl∨q=bRep):c'.isW [q]=c.isW [q]:=by
 by_cases hi:c.ix<m
 ·exact h.isW hi [q]
 ·obtain⟨h0,h1⟩:=h.fin' hc hi
  rw[h.noW hc hi]
  cases hn:c'.isN with
  | false=>unfold Cu.isW;rw[hn];rfl
  | true =>
   have h2:=h1.2 (zg5 hn).2;have hne:¬ (q=c'.tok.tx):=by rcases hq with rfl | rfl;exact fun e=>h2.1 e.symm;exact fun e=>h2.2 e.symm
   unfold Cu.isW;rw[hn];simp[inW,hne]
theorem Sj.take (h:Sj m c c'):Sj m c.take c'.take:=⟨by show c'.ix+1=c.ix+1;rw[h.ix],h.op,h.mo,h.kd,h.ts,h.le,h.en,h.bg⟩
theorem Sj.stop (h:Sj m c c') (k:Int):Sj m (c.stop k) (c'.stop k):=by
 unfold Cu.stop;rw[h.kd]
 split
 ·exact⟨h.ix,h.op,h.mo,rfl,h.ts,h.le,h.en,h.bg⟩
 ·exact h
theorem Sj.nmC (h:Sj m c c') (so:Bool):Sj m (c.nmC so) (c'.nmC so):=by
 cases so
 ·exact h.stop 70
 ·exact h.take
theorem Sj.opB (h:Sj m c c') (hc:c.Ok) (p:ByteArray):c'.opB p=c.opB p:=by unfold Cu.opB;rw[h.isP hc,h.op,h.mo]
theorem Sj.opn (h:Sj m c c') (hc:c.Ok) (p:ByteArray):Sj m (c.opn p) (c'.opn p):=by
 unfold Cu.opn;rw[h.isP hc,h.op,h.mo]
 split
 ·split
  ·exact⟨by simp only;rw[h.ix],by simp only,by simp only,h.kd,h.ts,h.le,h.en,h.bg⟩
  ·exact h.stop 71
 ·exact h.stop 70
theorem Sj.cls (h:Sj m c c') (hc:c.Ok) (p:ByteArray):Sj m (c.cls p) (c'.cls p):=by
 unfold Cu.cls;rw[h.isP hc]
 split
 ·exact⟨by simp only;rw[h.ix],by simp only;rw[h.op],h.mo,h.kd,h.ts,h.le,h.en,h.bg⟩
 ·exact h.stop 70
theorem Sj.punct (h:Sj m c c') (hc:c.Ok) (p:ByteArray):Sj m (c.punct p) (c'.punct p):=by
 unfold Cu.punct;rw[h.isP hc]
 split
 ·exact h.take
 ·exact h
theorem Sj.want (h:Sj m c c') (hc:c.Ok) (p:ByteArray):Sj m (c.want p) (c'.want p):=by
 unfold Cu.want;rw[h.isP hc]
 split
 ·exact h.take
 ·exact h.stop 70
end
structure Jb {A:Type} (z m:Nat) (E E':Cu→A × Cu) (b b':Nat):Prop where
 near:∀ c c',c.Ok→c'.Ok→Sj m c c'→c.ix+z≤m→c.ts.length≤b+c.ix→c'.ts.length≤b'+c'.ix→(E c).2.kd=0→(E' c').1=(E c).1∧Sj m (E c).2 (E' c').2
 st:St E
 st':St E'
 dm:Dm E
section
variable {z m b b':Nat}
theorem Jb.bnd {A X:Type} {E E':Cu→A × Cu} {F F':A→Cu→X × Cu} (h:Jb z m E E' b b') (k:∀ a,Jb 0 m (F a) (F' a) b b'):Jb z m (bnd E F) (bnd E' F') b b':=by
 refine⟨fun c c' hc hc' hs hz hb hb' hk=>?_,h.st.bnd fun a=>(k a).st,h.st'.bnd fun a=>(k a).st',h.dm.bnd fun a=>(k a).dm⟩
 have s1:=h.st c hc;have s2:=h.st' c' hc';have k1:(E c).2.kd=0:=(k (E c).1).dm.alive hk;obtain⟨e1,e2⟩:=h.near c c' hc hc' hs hz hb hb' k1;obtain⟨g1,g2⟩:=(k (E c).1).near (E c).2 (E' c').2 s1.ok s2.ok e2 (e2.le' s1.ok) (by rw[s1.ts];have:=s1.ix;omega) (by rw[s2.ts];have:=s2.ix;omega) hk
 show (F' (E' c').1 (E' c').2).1=(F (E c).1 (E c).2).1∧Sj m (F (E c).1 (E c).2).2 (F' (E' c').1 (E' c').2).2
 rw[e1];exact⟨g1,g2⟩
theorem Jb.lk {A X:Type} {E:Cu→A × Cu} {F F':A→Cu→X × Cu} (hl:∀ c,(E c).2=c) (he:∀ c c',c.Ok→Sj m c c'→c.ix+z≤m→(E c').1=(E c).1) (k:∀ a,Jb z m (F a) (F' a) b b'):Jb z m (cu.bnd E F) (cu.bnd E F') b b':=by
 have e0:∀ (G:A→Cu→X × Cu) c,cu.bnd E G c=G (E c).1 c:=fun G c=>by show G (E c).1 (E c).2=_;rw[hl]
 refine⟨fun c c' hc hc' hs hz hb hb' hk=>?_,fun c hc=>?_,fun c hc=>?_,fun c hk=>?_⟩
 ·rw[e0 F c] at hk ⊢
  rw[e0 F' c',he c c' hc hs hz];exact (k _).near c c' hc hc' hs hz hb hb' hk
 ·rw[e0 F c];exact (k _).st c hc
 ·rw[e0 F' c];exact (k _).st' c hc
 ·rw[e0 F c];exact (k _).dm c hk
theorem Jb.up {A:Type} {E E':Cu→A × Cu} (h:Jb 1 m E E' b b') (hp:∀ c,c.Ok→c.ts.length≤b+c.ix→(E c).2.kd=0→c.ix<(E c).2.ix):Jb 0 m E E' b b':=⟨fun c c' hc hc' hs hz hb hb' hk=>by
 have h1:=hp c hc hb hk;have h2:=(h.st c hc).ok.lt;rw[(h.st c hc).ts,hs.le] at h2
 exact h.near c c' hc hc' hs (by omega) hb hb' hk,h.st,h.st',h.dm⟩
theorem Jb.pg {A:Type} {E E':Cu→A × Cu} (h:Jb 1 m E E' b b') (hp:Pg E):Jb 0 m E E' b b':=h.up fun c hc _ hk=>hp c hc hk
theorem Jb.go {A:Type} {E E':Cu→Option A × Cu} (h:Jb 1 m E E' b b') (hG:Goes E) (hF:Faults E b):Jb 0 m E E' b b':=h.up fun c hc hb hk=>by
 cases hq:(E c).1 with
 | none=>exact absurd hk (hF c hc hb hq)
 | some v=>exact (hG c hc).2 (by rw[hq];rfl)
theorem Jb.mono {A:Type} {E E':Cu→A × Cu} {d d':Nat} (h:Jb z m E E' b b') (h1:d≤b) (h2:d'≤b'):Jb z m E E' d d':=⟨fun c c' hc hc' hs hz hb hb'=>h.near c c' hc hc' hs hz (by omega) (by omega),h.st,h.st',h.dm⟩
theorem zaO {A:Type} (a:A):Jb z m (ret a) (ret a) b b':=⟨fun c c' hc hc' hs hz hb hb' hk=>⟨rfl,hs⟩,zam _,zam _,za3 _⟩
theorem za6 {A:Type} {q:Bool} {E E' F F':Cu→A × Cu} (h:Jb z m E E' b b') (k:Jb z m F F' b b'):Jb z m (cond q E F) (cond q E' F') b b':=by cases q;exact k;exact h
theorem zfV {A:Type} (a:A):Jb z m (stopR a) (stopR a) b b':=⟨fun c c' hc hc' hs hz hb hb' hk=>⟨rfl,hs.stop 70⟩,za9 _,za9 _,zcV _⟩
theorem zht:Jb z m aliveR aliveR b b':=⟨fun c c' hc hc' hs hz hb hb' hk=>⟨by show decide (c'.kd=0)=decide (c.kd=0);rw[hs.kd],hs⟩,zbg,zbg,zkW⟩
theorem zjO (p:ByteArray):Jb z m (isPR p) (isPR p) b b':=⟨fun c c' hc hc' hs hz hb hb' hk=>⟨hs.isP hc p,hs⟩,za7 _,za7 _,zjP _⟩
theorem zeN (p:ByteArray):Jb z m (wantR p) (wantR p) b b':=⟨fun c c' hc hc' hs hz hb hb' hk=>⟨rfl,hs.want hc p⟩,zaN _,zaN _,zcA _⟩
theorem zcK (p:ByteArray):Jb z m (punctR p) (punctR p) b b':=⟨fun c c' hc hc' hs hz hb hb' hk=>⟨hs.isP hc p,hs.punct hc p⟩,zap _,zap _,zcf _⟩
theorem zpe (p:ByteArray):Dm (clsR p):=fun c h=>by show c.cls p=c;unfold Cu.cls;rw[zaJ h];exact zaA _ _ h
theorem zp7 (p:ByteArray):Dm (opnR p):=fun c h=>by show c.opn p=c;unfold Cu.opn;rw[zaJ h];exact zaA _ _ h
theorem nR_m:Dm nR:=fun c h=>zbX h
theorem zpd (p:ByteArray):Jb z m (clsR p) (clsR p) b b':=⟨fun c c' hc hc' hs hz hb hb' hk=>⟨hs.isP hc p,hs.cls hc p⟩,zdt _,zdt _,zpe _⟩
theorem zkS {q:ByteArray} (hq:q=bImpl∨q=bRep):Jb z m (wordR q) (wordR q) b b':=⟨fun c c' hc hc' hs hz hb hb' hk=>by
 refine⟨hs.isQ hc hq,?_⟩
 show Sj m (c.word q) (c'.word q)
 unfold Cu.word;rw[hs.isQ hc hq]
 split
 ·exact hs.take
 ·exact hs,zaw _,zaw _,zcZ _⟩
theorem zkT (q:ByteArray):Jb 1 m (wordR q) (wordR q) b b':=⟨fun c c' hc hc' hs hz hb hb' hk=>by
 refine⟨hs.isW hz [q],?_⟩
 show Sj m (c.word q) (c'.word q)
 unfold Cu.word;rw[hs.isW hz]
 split
 ·exact hs.take
 ·exact hs,zaw _,zaw _,zcZ _⟩
theorem zfH:Jb 1 m noteR noteR b b':=⟨fun c c' hc hc' hs hz hb hb' hk=>by
 unfold noteR;rw[hs.isS hz,hs.tok hz]
 split
 ·exact⟨rfl,hs.take⟩
 ·exact⟨rfl,hs⟩,zaE,zaE,zdx⟩
theorem Sj.name_ {c c':Cu} (hs:Sj m c c') (hc:c.Ok) (hk:c.name.kd=0):c.ix<m∧Sj m c.name c'.name:=by
 by_cases hi:c.ix<m
 ·refine⟨hi,?_⟩
  unfold Cu.name;rw[hs.isN hi]
  split
  ·exact hs.take
  ·exact hs.stop 70
 ·exact absurd hk (ze7 (hs.noN hc hi))
theorem ze5:Jb z m namR namR b b':=⟨fun c c' hc hc' hs hz hb hb' hk=>by
 obtain⟨hi,h2⟩:=hs.name_ hc hk
 exact⟨by show nm3 c'.tok c'.isN=nm3 c.tok c.isN;rw[hs.isN hi,hs.tok hi],h2⟩,zaR,zaR,zdL⟩
theorem nR_j:Jb z m nR nR b b':=⟨fun c c' hc hc' hs hz hb hb' hk=>by
 obtain⟨hi,h2⟩:=hs.name_ hc hk
 exact⟨by show (c'.isN,c'.tok.tx)=(c.isN,c.tok.tx);rw[hs.isN hi,hs.tok hi],h2⟩,zdP,zdP,nR_m⟩
theorem zh5 {c:Cu} {so:Bool} (h:(c.nmC so).kd=0):so=true:=by
 cases so with
 | true=>rfl
 | false=>exact absurd h (zbq _ _ (by decide))
theorem zo7 (ws:List ByteArray):Jb z m (butN ws) (butN ws) b b':=⟨fun c c' hc hc' hs hz hb hb' hk=>by
 have hi:c.ix<m:=Classical.byContradiction fun hi=>by
  have:=zh5 (c:=c) hk;rw[hs.noN hc hi] at this
  cases this
 refine⟨by show nm3 c'.tok _=nm3 c.tok _;rw[hs.isN hi,hs.tok hi],?_⟩
 show Sj m (c.nmC _) (c'.nmC _)
 rw[hs.isN hi,hs.tok hi]
 exact hs.nmC _,zcN _,zcN _,zmq _⟩
theorem Sj.ww {c c':Cu} (hs:Sj m c c') (hc:c.Ok) {ws:List ByteArray} (hk:(c.nmC (c.isW ws)).kd=0):c.ix<m:=Classical.byContradiction fun hi=>by
 have:=zh5 hk;rw[hs.noW hc hi] at this
 cases this
theorem zqw (ws:List ByteArray):Jb z m (wwN ws) (wwN ws) b b':=⟨fun c c' hc hc' hs hz hb hb' hk=>by
 have hi:=hs.ww hc hk;refine⟨by show nm3 c'.tok _=nm3 c.tok _;rw[hs.isW hi,hs.tok hi],?_⟩
 show Sj m (c.nmC _) (c'.nmC _)
 rw[hs.isW hi]
 exact hs.nmC _,zcM _,zcM _,zoT _⟩
theorem zrI (ws:List ByteArray):Jb z m (wwR ws) (wwR ws) b b':=⟨fun c c' hc hc' hs hz hb hb' hk=>by
 have hi:=hs.ww hc hk;refine⟨hs.isW hi ws,?_⟩
 show Sj m (c.nmC _) (c'.nmC _)
 rw[hs.isW hi]
 exact hs.nmC _,zbB _,zbB _,zqA _⟩
theorem zoH (k:Int) (h0:k ≠ 0) (h1:k ≠ 1):Jb 1 m (takeK k) (takeK k) b b':=⟨fun c c' hc hc' hs hz hb hb' hk=>by
 refine⟨rfl,?_⟩
 show Sj m (if c.kd=0∧c.tok.k=k then c.take else c) (if c'.kd=0∧c'.tok.k=k then c'.take else c')
 rw[hs.kd,hs.tok hz]
 split
 ·exact hs.take
 ·exact hs,zdm k h0 h1,zdm k h0 h1,fun c h=>if_neg fun e=>h e.1⟩
theorem Jb.tok {X:Type} {F F':Tk→Cu→X × Cu} (k:∀ a,Jb 1 m (F a) (F' a) b b'):Jb 1 m (cu.bnd tokR F) (cu.bnd tokR F') b b':=Jb.lk (fun _=>rfl) (fun c c' _ hs hz=>hs.tok hz) k
theorem Jb.isP {X:Type} {p:ByteArray} {F F':Bool→Cu→X × Cu} (k:∀ a,Jb z m (F a) (F' a) b b'):Jb z m (cu.bnd (isPR p) F) (cu.bnd (isPR p) F') b b':=Jb.lk (fun _=>rfl) (fun c c' hc hs hz=>hs.isP hc p) k
theorem Jb.alv {X:Type} {F F':Bool→Cu→X × Cu} (k:∀ a,Jb z m (F a) (F' a) b b'):Jb z m (cu.bnd aliveR F) (cu.bnd aliveR F') b b':=Jb.lk (fun _=>rfl) (fun c c' hc hs hz=>by show decide (c'.kd=0)=decide (c.kd=0);rw[hs.kd]) k
theorem zrc {X:Type} (p:ByteArray) {F F':Bool→Cu→X × Cu} (k:Jb 0 m (F true) (F' true) b b') (k0:Jb 0 m (F false) (F' false) (b+1) (b'+1)):Jb z m (bnd (opnR p) F) (bnd (opnR p) F') (b+1) (b'+1):=by
 refine⟨fun c c' hc hc' hs hz hb hb' hk=>?_,(zdy p).bnd fun q=>by cases q;exact k0.st;exact k.st,(zdy p).bnd fun q=>by cases q;exact k0.st';exact k.st',(zp7 p).bnd fun q=>by cases q;exact k0.dm;exact k.dm⟩
 have s1:=zau hc p;have s2:=zau hc' p;have eB:=hs.opB hc p;have eS:=hs.opn hc p
 show (F' (c'.opB p) (c'.opn p)).1=(F (c.opB p) (c.opn p)).1∧Sj m (F (c.opB p) (c.opn p)).2 (F' (c'.opB p) (c'.opn p)).2
 have hk':(F (c.opB p) (c.opn p)).2.kd=0:=hk;rw[eB]
 cases hq:c.opB p
 ·rw[hq] at hk'
  exact k0.near _ _ s1.ok s2.ok eS (eS.le' s1.ok) (by rw[s1.ts];have:=s1.ix;omega) (by rw[s2.ts];have:=s2.ix;omega) hk'
 ·rw[hq] at hk'
  have x1:=zaL hq;have x2:=zaL (show c'.opB p=true by rw[eB];exact hq)
  exact k.near _ _ s1.ok s2.ok eS (eS.le' s1.ok) (by rw[s1.ts,x1];omega) (by rw[s2.ts,x2];omega) hk'
theorem zre {X:Type} (p:ByteArray) {F F':Bool→Cu→X × Cu} (k:Jb 0 m (F true) (F' true) b b') (k0:Jb 0 m (F false) (F' false) (b+1) (b'+1)):Jb z m (bnd (punctR p) F) (bnd (punctR p) F') (b+1) (b'+1):=by
 refine⟨fun c c' hc hc' hs hz hb hb' hk=>?_,(zap p).bnd fun q=>by cases q;exact k0.st;exact k.st,(zap p).bnd fun q=>by cases q;exact k0.st';exact k.st',(zcf p).bnd fun q=>by cases q;exact k0.dm;exact k.dm⟩
 have s1:=zaT hc p;have s2:=zaT hc' p;have e:=hs.isP hc p;have eS:=hs.punct hc p
 show (F' (c'.isP p) (c'.punct p)).1=(F (c.isP p) (c.punct p)).1∧Sj m (F (c.isP p) (c.punct p)).2 (F' (c'.isP p) (c'.punct p)).2
 have hk':(F (c.isP p) (c.punct p)).2.kd=0:=hk;rw[e]
 cases hq:c.isP p
 ·rw[hq] at hk'
  exact k0.near _ _ s1.ok s2.ok eS (eS.le' s1.ok) (by rw[s1.ts];have:=s1.ix;omega) (by rw[s2.ts];have:=s2.ix;omega) hk'
 ·rw[hq] at hk' e
  have x1:(c.punct p).ix=c.ix+1:=by unfold Cu.punct;rw[if_pos hq];rfl
  have x2:(c'.punct p).ix=c'.ix+1:=by unfold Cu.punct;rw[if_pos e];rfl
  exact k.near _ _ s1.ok s2.ok eS (eS.le' s1.ok) (by rw[s1.ts,x1];omega) (by rw[s2.ts,x2];omega) hk'
theorem zmj {E:LitR} (hE:Dm E) (r:ByteArray) (n:Nat):∀ (g:Nat) (l:List Dt),Dm (brkF E r n g l)
 | 0,l=>fun c h=>rfl
 | g+1,l=>fun c h=>by
  simp only[brkF];rw[if_pos (.inr (zaJ h r))]
  cases hq:(E c).1 with
  | none=>exact hE c h
  | some d=>dsimp only;rw[hE c h];exact zmj hE r n g _ c h
theorem zmi {E E':LitR} (hG:Goes E) (hG':Goes E') (hE:Jb 0 m E E' b b') (r:ByteArray) (n:Nat):∀ (g g':Nat) (l:List Dt) (c c':Cu),c.Ok→c'.Ok→Sj m c c'→c.ts.length≤b+c.ix→c'.ts.length≤b'+c'.ix→c.ts.length≤g+c.ix→c'.ts.length≤g'+c'.ix→(brkF E r n g l c).2.kd=0→(brkF E' r n g' l c').1=(brkF E r n g l c).1∧Sj m (brkF E r n g l c).2 (brkF E' r n g' l c').2
 | 0,g',l,c,c',h,h',hs,hb,hb',hg,hg',hk=>by have:=h.lt;omega
 | g+1,0,l,c,c',h,h',hs,hb,hb',hg,hg',hk=>by have:=h'.lt;omega
 | g+1,g'+1,l,c,c',h,h',hs,hb,hb',hg,hg',hk=>by
  simp only[brkF] at hk ⊢;rw[hs.isP h]
  by_cases hc:l.length<n∨c.isP r=false
  ·rw[if_pos hc] at hk
   rw[if_pos hc,if_pos hc];have hgo:=hG c h
   have hEk:(E c).2.kd=0:=by
    cases hq:(E c).1 with
    | none=>rw[hq] at hk;exact hk
    | some d=>rw[hq] at hk;exact (zmj hE.dm r n g _).alive hk
   obtain⟨e1,e2⟩:=hE.near c c' h h' hs (hs.le' h) hb hb' hEk
   cases hq:(E c).1 with
   | none =>
    rw[hq] at e1;rw[e1];exact⟨rfl,e2⟩
   | some d =>
    rw[hq] at e1 hk;rw[e1];have hgo':=hG' c' h';have i1:=hgo.2 (by rw[hq];rfl)
    have i2:=hgo'.2 (by rw[e1];rfl)
    exact zmi hG hG' hE r n g g' (l ++ [d]) _ _ hgo.1.ok hgo'.1.ok e2 (by rw[hgo.1.ts];omega) (by rw[hgo'.1.ts];omega) (by rw[hgo.1.ts];omega) (by rw[hgo'.1.ts];omega) hk
  ·rw[if_neg hc,if_neg hc]
   exact⟨rfl,hs.cls h r⟩
theorem zk5 {E E':LitR} (hG:Goes E) (hG':Goes E') (hE:Jb 0 m E E' b b') (l r:ByteArray) (n:Nat):Jb z m (brk E l r n) (brk E' l r n) (b+1) (b'+1):=by
 refine⟨fun c c' h h' hs hz hb hb' hk=>?_,(zaH hG l r n).st,(zaH hG' l r n).st,fun c h=>by rw[zfi _ _ _ _ h]⟩
 unfold brk at hk ⊢;rw[hs.opB h];have ho:=zau h l;have ho':=zau h' l
 by_cases hB:c.opB l=true
 ·rw[if_pos hB] at hk
  rw[if_pos hB,if_pos hB];have x1:=zaL hB;have x2:=zaL (show c'.opB l=true by rw[hs.opB h];exact hB)
  exact zmi hG hG' hE r n _ _ [] _ _ ho.ok ho'.ok (hs.opn h l) (by rw[ho.ts,x1];omega) (by rw[ho'.ts,x2];omega) (by rw[ho.ts];omega) (by rw[ho'.ts];omega) hk
 ·rw[if_neg hB,if_neg hB]
  exact⟨rfl,hs.opn h l⟩
theorem zme {L L':LitR} (hG:Goes L) (hF:Faults L b) (h:Jb 0 m L L' b b'):Jb 0 m (argS L) (argS L') b b':=by
 refine Jb.go ?_ (zas hG) (za1 b hF)
 rw[zc0,zc0];exact Jb.tok fun t=>nR_j.bnd fun _=>(zeN _).bnd fun _=>h.bnd fun r=>zaO _
theorem zpO {L L':LitR} (hG:Goes L) (hG':Goes L') (hF:Faults L b) (h:Jb 0 m L L' b b') (ct:Bool):Jb 1 m (litS L ct) (litS L' ct) (b+1) (b'+1):=by
 rw[zeu,zeu];refine Jb.alv fun al=>za6 (Jb.tok fun t=>?_) (zaO _)
 have hK:∀ (k:Int) {v:Option Dt},k ≠ 0→k ≠ 1→Jb 1 m (bnd (takeK k) fun _=>ret v) (bnd (takeK k) fun _=>ret v) (b+1) (b'+1):=fun k {v} h0 h1=>(zoH k h0 h1).bnd fun _=>zaO _
 unfold litT
 exact za6 (hK 4 (by decide) (by decide)) (za6 (hK 5 (by decide) (by decide)) (za6 (hK 6 (by decide) (by decide)) (za6 (hK 7 (by decide) (by decide)) (za6 (hK 3 (by decide) (by decide))
  (Jb.isP fun q=>za6 ((zcK _).bnd fun _=>nR_j.bnd fun n=>zaO _)
  (Jb.isP fun q=>za6 ((zk5 hG hG' h _ _ 0).bnd fun r=>zaO _)
  (Jb.isP fun q=>za6 ((zk5 (zas hG) (zas hG') (zme hG hF h) _ _ 0).bnd fun r=>zaO _)
  (zfV _))))))))
theorem zj1:∀ (f f':Nat),Jb 0 m (litF true f) (litF true f') f f'
 | 0,f'=>⟨fun c c' hc hc' hs hz hb=>by have:=hc.lt;omega,(zaj true 0).st,(zaj true f').st,zh1 0⟩
 | f+1,0=>⟨fun c c' hc hc' hs hz hb hb'=>by have:=hc'.lt;omega,(zaj true (f+1)).st,(zaj true 0).st,zh1 (f+1)⟩
 | f+1,f'+1=>Jb.go (show Jb 1 m (litS (litF true f) true) (litS (litF true f') true) (f+1) (f'+1) from zpO (zaj true f) (zaj true f') (zaQ true f) (zj1 f f') true) (zaj true (f+1)) (zaQ true (f+1))
theorem znk {L L':LitR} (hG:Goes L) (hG':Goes L') (hF:Faults L b) (h:Jb 0 m L L' b b'):Jb 0 m (argsS L) (argsS L') b b':=by
 rw[zbD,zbD];exact (zjO _).bnd fun q=>za6 ((zk5 (zas hG) (zas hG') (zme hG hF h) _ _ 1).mono (Nat.le_succ _) (Nat.le_succ _)) (zht.bnd fun a=>zaO _)
theorem zpm {L L':LitR} (hG:Goes L) (hG':Goes L') (hF:Faults L b) (h:Jb 0 m L L' b b'):Jb 1 m (dirB L) (dirB L') b b':=Jb.tok fun t=>(zcK _).bnd fun _=>nR_j.bnd fun n=>(znk hG hG' hF h).bnd fun r=>zaO _
theorem znF (L:LitR):∀ (g:Nat) (l:List Dt),Dm (dirsF L g l):=fun g l c h=>by
 cases g with
 | zero=>rfl
 | succ g =>
  simp only[dirsF];rw[zaJ h,if_neg (by decide)]
theorem zjz {L L':LitR} (hG:Goes L) (hG':Goes L') (hB:Jb 1 m (dirB L) (dirB L') b b'):∀ (g g':Nat) (l:List Dt) (c c':Cu),c.Ok→c'.Ok→Sj m c c'→c.ts.length≤b+c.ix→c'.ts.length≤b'+c'.ix→c.ts.length≤g+c.ix→c'.ts.length≤g'+c'.ix→(dirsF L g l c).2.kd=0→(dirsF L' g' l c').1=(dirsF L g l c).1∧Sj m (dirsF L g l c).2 (dirsF L' g' l c').2
 | 0,g',l,c,c',h,h',hs,hb,hb',hg,hg',hk=>by have:=h.lt;omega
 | g+1,0,l,c,c',h,h',hs,hb,hb',hg,hg',hk=>by have:=h'.lt;omega
 | g+1,g'+1,l,c,c',h,h',hs,hb,hb',hg,hg',hk=>by
  simp only[dirsF] at hk ⊢;rw[hs.isP h]
  by_cases hp:c.isP bAt=true
  ·rw[if_pos hp] at hk
   rw[if_pos hp,if_pos hp];have hp':c'.isP bAt=true:=by rw[hs.isP h];exact hp
   have hi:c.ix<m:=Classical.byContradiction fun hi=>by
    have h2:=(zep hp).2.1;rw[(hs.fin' h hi).1] at h2
    cases h2
   have hgo:=zbd hG h hp;have hgo':=zbd hG' h' hp'
   have hEk:(dirS L c).2.kd=0:=by
    cases hq:(dirS L c).1 with
    | none=>rw[hq] at hk;exact hk
    | some d=>rw[hq] at hk;exact (znF L g _).alive hk
   have hnr:=hB.near c c' h h' hs hi hb hb' (by unfold dirB;rw[← zbm L c hp];exact hEk)
   unfold dirB at hnr;rw[← zbm L c hp,← zbm L' c' hp'] at hnr;obtain⟨e1,e2⟩:=hnr
   cases hq:(dirS L c).1 with
   | none =>
    rw[hq] at e1;rw[e1];exact⟨rfl,e2⟩
   | some d =>
    rw[hq] at e1 hk;rw[e1];have i1:=hgo.2;have i2:=hgo'.2;exact zjz hG hG' hB g g' (l ++ [d]) _ _ hgo.1.ok hgo'.1.ok e2 (by rw[hgo.1.ts];omega) (by rw[hgo'.1.ts];omega) (by rw[hgo.1.ts];omega) (by rw[hgo'.1.ts];omega) hk
  ·rw[if_neg hp,if_neg hp]
   exact⟨by simp only[hs.kd],hs⟩
theorem zpu {L L':LitR} (hG:Goes L) (hG':Goes L') (hF:Faults L b) (h:Jb 0 m L L' b b'):Jb 0 m (dirs L) (dirs L') b b':=
 ⟨fun c c' hc hc' hs hz hb hb' hk=>zjz hG hG' (zpm hG hG' hF h) _ _ [] c c' hc hc' hs hb hb' (by omega) (by omega) hk,zaI hG,zaI hG',zbU L⟩
theorem zqp {T T':TypR} (h:Jb 0 m T T' b b'):Jb 0 m (unmI T) (unmI T') b b':=h.bnd fun r=>by
 cases r with
 | none=>exact zaO _
 | some it=>exact (zpd _).bnd fun _=>zaO _
theorem zrG {T T':TypR} (h:Jb 0 m T T' b b'):Jb 0 m (unm T) (unm T') (b+1) (b'+1):=by
 rw[zdO,zdO];exact Jb.isP fun q=>za6 (zrc bLb (F:=fun o=>cond o (unmI T) (ret none)) (F':=fun o=>cond o (unmI T') (ret none)) (zqp h) (zaO _)) (nR_j.bnd fun _=>zaO _)
theorem zry {U U':TypR} (h:Jb 0 m U U' b b'):Jb 0 m (typ U) (typ U') b b':=by
 rw[zeK,zeK]
 exact h.bnd fun r=>by
  cases r with
  | none=>exact zaO _
  | some r=>exact (zcK _).bnd fun _=>zaO _
theorem zkM:∀ (f f':Nat),Jb 0 m (typF f) (typF f') f f'
 | 0,f'=>⟨fun c c' hc hc' hs hz hb=>by have:=hc.lt;omega,zaU 0,zaU f',zff 0⟩
 | f+1,0=>⟨fun c c' hc hc' hs hz hb hb'=>by have:=hc'.lt;omega,zaU (f+1),zaU 0,zff (f+1)⟩
 | f+1,f'+1=>zry (zrG (zkM f f'))
theorem zmY {E E':Cu→Dt × Cu} (h:Jb z m E E' b b'):Jb z m (optR E) (optR E') b b':=h.bnd fun d=>zht.bnd fun a=>zaO _
theorem zmm {E E':Cu→Dt × Cu} (hG:Goes (optR E)) (hG':Goes (optR E')) (h:Jb 0 m E E' b b') (l r:ByteArray):Jb 0 m (brkT E l r) (brkT E' l r) b b':=
 Jb.bnd ((zk5 hG hG' (zmY h) l r 1).mono (Nat.le_succ _) (Nat.le_succ _)) fun _=>zaO _
theorem zgx {E E':Cu→Dt × Cu} (hG:Goes (optR E)) (hG':Goes (optR E')) (h:Jb 0 m E E' b b') (l r:ByteArray):Jb 0 m (optT E l r) (optT E' l r) b b':=(zjO l).bnd fun q=>za6 (zmm hG hG' h l r) (zaO _)
theorem zm0 {E E':Cu→Nm × Cu} (k:ByteArray) (h:∀ b b',Jb 0 m E E' b b'):∀ (g g':Nat) (l:List Dt),Jb 0 m (parF E k g l) (parF E' k g' l) g g'
 | 0,g',l=>⟨fun c c' hc hc' hs hz hb=>by have:=hc.lt;omega,zam l,zce (h 0 0).st' k g' l,za3 l⟩
 | g+1,0,l=>⟨fun c c' hc hc' hs hz hb hb'=>by have:=hc'.lt;omega,zce (h 0 0).st k (g+1) l,zam l,zkl (h 0 0).dm k (g+1) l⟩
 | g+1,g'+1,l=>zre k (F:=fun q=>cond q (cu.bnd E fun d=>parF E k g (l ++ [namD d])) (ret l)) (F':=fun q=>cond q (cu.bnd E' fun d=>parF E' k g' (l ++ [namD d])) (ret l)) (show Jb 0 m (cu.bnd E fun d=>parF E k g (l ++ [namD d])) (cu.bnd E' fun d=>parF E' k g' (l ++ [namD d])) g g' from (h g g').bnd fun d=>zm0 k h g g' _) (zaO l)
theorem zkp {E E':Cu→Nm × Cu} (k:ByteArray) (h:∀ b b',Jb 0 m E E' b b') (N N':Nat):Jb 0 m (parT N E k) (parT N' E' k) N N':=(zcK k).bnd fun _=>(h N N').bnd fun d=>zm0 k h N N' _
theorem kw_j (q:ByteArray) {E E' F F':Cu→Sy × Cu} (h:Jb 0 m E E' b b') (k:Jb 1 m F F' b b'):Jb 1 m (kwT q E F) (kwT q E' F') b b':=by
 refine⟨fun c c' hc hc' hs hz hb hb' hk=>?_,zeU q h.st k.st,zeU q h.st' k.st',(zcZ q).bnd fun _=>zbs h.dm k.dm⟩
 have e:=hs.isW hz [q];have s1:=zaw q c hc;have s2:=zaw q c' hc';have w1:Stp c (c.word q):=s1;have w2:Stp c' (c'.word q):=s2;have hw:=(zkT (m:=m) (b:=b) (b':=b') q).near c c' hc hc' hs hz hb hb';have hk':(cond (c.isW [q]) E F (c.word q)).2.kd=0:=hk
 show (cond (c'.isW [q]) E' F' (c'.word q)).1=(cond (c.isW [q]) E F (c.word q)).1∧Sj m (cond (c.isW [q]) E F (c.word q)).2 (cond (c'.isW [q]) E' F' (c'.word q)).2
 have hd:Dm (cond (c.isW [q]) E F):=zbs h.dm k.dm;have hs2:Sj m (c.word q) (c'.word q):=(hw (hd.alive hk')).2;rw[e]
 cases hq:c.isW [q]
 ·rw[hq] at hk'
  have e1:c.word q=c:=by unfold Cu.word;rw[hq];rfl
  exact k.near _ _ w1.ok w2.ok hs2 (by rw[e1];exact hz) (by rw[w1.ts];have:=w1.ix;omega) (by rw[w2.ts];have:=w2.ix;omega) hk'
 ·rw[hq] at hk'
  exact h.near _ _ w1.ok w2.ok hs2 (hs2.le' w1.ok) (by rw[w1.ts];have:=w1.ix;omega) (by rw[w2.ts];have:=w2.ix;omega) hk'
end
section
variable {m:Nat} (N N':Nat)
theorem zb4:Jb 0 m (dirs (litF true N)) (dirs (litF true N')) N N':=zpu (zaj true N) (zaj true N') (zaQ true N) (zj1 N N')
theorem znY:Jb 0 m (inpT (typF N) (litF true N)) (inpT (typF N') (litF true N')) N N':=Jb.pg (zfH.bnd fun _=>ze5.bnd fun _=>(zeN _).bnd fun _=>(zkM N N').bnd fun _=>(zcK _).bnd fun q=>(za6 (zj1 N N') (zaO _)).bnd fun _=>(zb4 N N').bnd fun _=>zaO _) (zjM N)
theorem fd_j:Jb 0 m (fdT (typF N) (litF true N)) (fdT (typF N') (litF true N')) N N':=Jb.pg (zfH.bnd fun _=>ze5.bnd fun _=>(zgx (zaF N) (zaF N') (znY N N') _ _).bnd fun _=>(zeN _).bnd fun _=>(zkM N N').bnd fun _=>(zb4 N N').bnd fun _=>zaO _) (znP N)
theorem zqG:Jb 0 m (choT (litF true N)) (choT (litF true N')) N N':=Jb.pg (zfH.bnd fun _=>(zo7 _).bnd fun _=>(zb4 N N').bnd fun _=>zaO _) (zjl N)
theorem zrj:Jb 0 m rooT rooT N N':=(zqw _).bnd fun _=>(zeN _).bnd fun _=>ze5.bnd fun _=>zaO _
theorem ziT (s:Sy):Jb 0 m (nmdT s) (nmdT s) N N':=ze5.bnd fun _=>zaO _
theorem zrt (s:Sy):Jb 0 m (schT (litF true N) s) (schT (litF true N') s) N N':=(zb4 N N').bnd fun _=>(zjO _).bnd fun q=>(za6 (zmm zdj zdj (zrj N N') _ _) (zaO _)).bnd fun _=>zaO _
theorem zro (s:Sy):Jb 0 m (scaT (litF true N) s) (scaT (litF true N') s) N N':=(ziT N N' s).bnd fun _=>(zb4 N N').bnd fun _=>zaO _
theorem zp2 (s:Sy):Jb 0 m (objT (typF N) (litF true N) N s) (objT (typF N') (litF true N') N' s) N N':=(ziT N N' s).bnd fun _=>(zkS (.inl rfl)).bnd fun q=>(za6 (zkp bAmp (fun _ _=>ze5) N N') (zaO _)).bnd fun _=>(zb4 N N').bnd fun _=>(zgx (zfw N) (zfw N') (fd_j N N') _ _).bnd fun _=>zaO _
theorem zrB (s:Sy):Jb 0 m (uniT (litF true N) N s) (uniT (litF true N') N' s) N N':=(ziT N N' s).bnd fun _=>(zb4 N N').bnd fun _=>(zcK _).bnd fun q=>(za6 (zkp bPipe (fun _ _=>ze5) N N') (zaO _)).bnd fun _=>zaO _
theorem zqT (s:Sy):Jb 0 m (enuT (litF true N) s) (enuT (litF true N') s) N N':=(ziT N N' s).bnd fun _=>(zb4 N N').bnd fun _=>(zgx (zc4 N) (zc4 N') (zqG N N') _ _).bnd fun _=>zaO _
theorem zq2 (s:Sy):Jb 0 m (inuT (typF N) (litF true N) s) (inuT (typF N') (litF true N') s) N N':=(ziT N N' s).bnd fun _=>(zb4 N N').bnd fun _=>(zgx (zaF N) (zaF N') (znY N N') _ _).bnd fun _=>zaO _
theorem zpq (s:Sy):Jb 0 m (dirT (typF N) (litF true N) N s) (dirT (typF N') (litF true N') N' s) N N':=(zeN _).bnd fun _=>(ziT N N' s).bnd fun _=>(zgx (zaF N) (zaF N') (znY N N') _ _).bnd fun _=>(zkS (.inr rfl)).bnd fun _=>(zrI _).bnd fun _=>(zkp bPipe (fun _ _=>zqw _) N N').bnd fun _=>zaO _
theorem zq7 (s:Sy):Jb 0 m (keyT (typF N) (litF true N) N s) (keyT (typF N') (litF true N') N' s) N N':=Jb.pg (Jb.tok fun t =>
 kw_j _ (zrt N N' _) (kw_j _ (zro N N' _) (kw_j _ (zp2 N N' _) (kw_j _ (zp2 N N' _) (kw_j _ (zrB N N' _) (kw_j _ (zqT N N' _) (kw_j _ (zq2 N N' _) (za6 (zfV _) (kw_j _ (zpq N N' _) (zfV _)))))))))) (zjT N s)
theorem zqM:Jb 0 m (defT (typF N) (litF true N) N) (defT (typF N') (litF true N') N') N N':=Jb.pg (zfH.bnd fun n=>Jb.pg ((za6 (zaO _) (zkT _)).bnd fun x=>(zq7 N N' _).bnd fun s=>za6 (zfV _) (zaO _)) (Pg.r (zaK (zam _) (zaw _)) fun x=>(zjT N _).l (zgp N _) (fun s=>zbs (zcV _) (za3 _)) (fun s=>zaK (za9 _) (zam _)))) (zju N)
theorem sd_j:Jb 0 m (sdN N) (sdN N') N N':=zmY (zqM N N')
end
theorem zbG {q:ByteArray} {E F:Cu→Sy × Cu} {c:Cu} (h:(kwT q E F c).2.kd=0):c.isW [q]=true∨(F c).2.kd=0:=by
 cases hq:c.isW [q] with
 | true=>exact .inl rfl
 | false =>
  have h':(cond (c.isW [q]) E F (c.word q)).2.kd=0:=h;have e:c.word q=c:=by unfold Cu.word;rw[hq];rfl
  rw[hq,e] at h';exact .inr h'
theorem zca {c:Cu} {q:ByteArray} (h:c.isW [q]=true) (h1:q ≠ bImpl) (h2:q ≠ bRep):Bgn c.tok∧c.tok.k ≠ 0:=by
 have hk:=(zg5 (zeq h)).2
 have hx:q=c.tok.tx:=by
  unfold Cu.isW at h;simp only[Bool.and_eq_true] at h
  simpa[inW] using h.2
 exact⟨⟨by omega,fun _=>⟨fun e=>h1 (hx.trans e),fun e=>h2 (hx.trans e)⟩⟩,by omega⟩
theorem znB {N:Nat} {c:Cu} (h:(defT (typF N) (litF true N) N c).2.kd=0):Bgn c.tok∧c.tok.k ≠ 0:=by
 by_cases hs:c.isS=true
 ·have:=(zgn hs).2
  exact⟨⟨by omega,fun e=>by omega⟩,by omega⟩
 ·have hs':c.isS=false:=by simpa using hs
  have e0:noteR c=((false,false,em),c):=by unfold noteR;rw[hs'];rfl
  have h1:((bnd (wordR bExt) fun x=>bnd (keyT (typF N) (litF true N) N (Sy.of (false,false,em) x)) fun s=>cond (s.ex && s.bare) (stopR s.d) (ret s.d)) c).2.kd=0:=by
   have h2:((fun n:Nt=>bnd (cond n.1 (ret false) (wordR bExt)) fun x=>bnd (keyT (typF N) (litF true N) N (Sy.of n x)) fun s=>cond (s.ex && s.bare) (stopR s.d) (ret s.d)) (noteR c).1 (noteR c).2).2.kd=0:=h
   rw[e0] at h2;exact h2
  cases hx:c.isW [bExt] with
  | true=>exact zca hx (by decide) (by decide)
  | false =>
   have e:c.word bExt=c:=by unfold Cu.word;rw[hx];rfl
   have h3:((fun x=>bnd (keyT (typF N) (litF true N) N (Sy.of (false,false,em) x)) fun s=>cond (s.ex && s.bare) (stopR s.d) (ret s.d)) (c.isW [bExt]) (c.word bExt)).2.kd=0:=h1
   rw[hx,e] at h3;have h4:(keyT (typF N) (litF true N) N (Sy.of (false,false,em) false) c).2.kd=0:=Dm.alive (E:=fun c'=>(fun s:Sy=>cond (s.ex && s.bare) (stopR s.d) (ret s.d)) (keyT (typF N) (litF true N) N (Sy.of (false,false,em) false) c).1 c') (zbs (zcV _) (za3 _)) h3
   rcases zbG h4 with h5 | h5
   ·exact zca h5 (by decide) (by decide)
   rcases zbG h5 with h5 | h5
   ·exact zca h5 (by decide) (by decide)
   rcases zbG h5 with h5 | h5
   ·exact zca h5 (by decide) (by decide)
   rcases zbG h5 with h5 | h5
   ·exact zca h5 (by decide) (by decide)
   rcases zbG h5 with h5 | h5
   ·exact zca h5 (by decide) (by decide)
   rcases zbG h5 with h5 | h5
   ·exact zca h5 (by decide) (by decide)
   rcases zbG h5 with h5 | h5
   ·exact zca h5 (by decide) (by decide)
   rcases zbG h5 with h5 | h5
   ·exact zca h5 (by decide) (by decide)
   exact absurd h5 (zbq _ _ (by decide))
end Go.Proofs.YtifbkdicglcogaaGreat.cu
namespace Go.Proofs.YtifbkdicglcogaaGreat.lx
open mem (pfx digB digs digAt isAt bWhole bPart bPoint bMark pfxFirst pfxR posT enB prB digsF)
open cu (Tk)
structure Shf (l l':List Int) (n:Nat):Prop where
 len:l'.length=n+l.length
 dr:l'.drop n=l
theorem Shf.of (p l:List Int):Shf l (p ++ l) p.length:=⟨by simp,by simp⟩
section
variable {l l':List Int} {n:Nat} (H:Shf l l' n)
include H
theorem Shf.at (i:Nat):cAt l' (n+i)=cAt l i:=by
 unfold cAt;have h1:=H.len
 rcases Nat.lt_or_ge i l.length with g | g
 ·rw[if_pos g,if_pos (by omega),List.getD_eq_getElem?_getD,List.getD_eq_getElem?_getD,← H.dr,List.getElem?_drop]
 ·rw[if_neg (by omega),if_neg (by omega)]
theorem Shf.at1 (i:Nat):cAt l' (n+i+1)=cAt l (i+1):=H.at (i+1)
theorem Shf.at2 (i:Nat):cAt l' (n+i+2)=cAt l (i+2):=H.at (i+2)
theorem zdb:∀ (f:Nat) (b:Bool) (i:Nat),ignF l' f b (n+i)=n+ignF l f b i
 | 0,b,i=>rfl
 | f+1,false,i=>by
  simp only[ignF,H.at]
  split
  ·exact zdb f false (i+1)
  ·split
   ·exact zdb f true (i+1)
   ·rfl
 | f+1,true,i=>by
  simp only[ignF,H.at]
  split
  ·exact zdb f false (i+1)
  ·split
   ·exact zdb f true (i+1)
   ·rfl
theorem znU (b:Bool) (i:Nat):ign l' b (n+i)=n+ign l b i:=by
 unfold ign;rw[H.len,show n+l.length+1 - (n+i)=l.length+1 - i by omega]
 exact zdb H _ b i
theorem zh3:∀ (f:Nat) (i:Nat),namF l' f (n+i)=n+namF l f i
 | 0,i=>rfl
 | f+1,i=>by
  simp only[namF,H.at]
  split
  ·exact zh3 f (i+1)
  ·rfl
theorem zn8 (i:Nat):nam l' (n+i)=n+nam l i:=by
 unfold nam;rw[H.len,show n+l.length+1 - (n+i)=l.length+1 - i by omega]
 exact zh3 H _ i
theorem zjv (i:Nat):digAt l' (n+i)=digAt l i:=by rw[zdu,zdu,H.at]
theorem zb9 (i:Nat) (c:Int) (hc:c ≠ -1):isAt l' (n+i) c=isAt l i c:=by rw[zbz _ _ _ hc,zbz _ _ _ hc,H.at]
theorem zgf:∀ (f:Nat) (i:Nat),digsF l' f (n+i)=n+digsF l f i
 | 0,i=>rfl
 | f+1,i=>by
  simp only[digsF,zjv H]
  split
  ·exact zgf f (i+1)
  ·rfl
theorem zhJ (i:Nat):digs l' (n+i)=n+digs l i:=by
 unfold digs;rw[H.len,show n+l.length - (n+i)=l.length - i by omega]
 exact zgf H _ i
theorem ziA (i:Nat):bWhole l' (n+i)=n+bWhole l i:=by
 unfold bWhole;rw[zb9 H i 48 (by decide),zhJ H]
 split <;> rfl
theorem ziz (i:Nat):bPoint l' (n+i)=n+bPoint l i:=by
 unfold bPoint;rw[zb9 H i 46 (by decide)]
 split <;> rfl
theorem zgC (i:Nat):pfxFirst l' (n+i)=n+pfxFirst l i:=by
 unfold pfxFirst;rw[zb9 H i 45 (by decide)]
 split <;> rfl
theorem zjc (i:Nat):bMark l' (n+i)=n+bMark l i:=by
 unfold bMark;rw[zb9 H i 101 (by decide),zb9 H i 69 (by decide),show n+i+1=n+(i+1) from rfl,zb9 H (i+1) 43 (by decide),zb9 H (i+1) 45 (by decide)]
 split
 ·rfl
 ·split <;> rfl
theorem zf6 (i q:Nat):bPart l' (n+i) (n+q)=(n+(bPart l i q).1,n+(bPart l i q).2):=by
 unfold bPart;rw[zhJ H]
 by_cases h1:q=i
 ·rw[if_pos h1,if_pos (by omega)]
 ·rw[if_neg h1,if_neg (by omega)]
  by_cases h2:digs l q=q
  ·rw[if_pos h2,if_pos (by omega)]
  ·rw[if_neg h2,if_neg (by omega)]
theorem zlS (i:Nat):pfxR l' (n+i)=(n+(pfxR l i).1,n+(pfxR l i).2):=by
 unfold pfxR;rw[ziz H,zf6 H];dsimp only;rw[zjc H,zf6 H]
 by_cases h:(bPart l i (bPoint l i)).1=(bPart l i (bPoint l i)).2
 ·rw[if_pos h,if_pos (by omega)]
 ·rw[if_neg h,if_neg (by omega)]
theorem zoo (i:Nat):pfx l' (n+i)=(n+(pfx l i).1,n+(pfx l i).2.1,(pfx l i).2.2):=by
 unfold pfx;rw[zgC H,ziA H,zlS H];dsimp only
 by_cases h:bWhole l (pfxFirst l i)=pfxFirst l i
 ·rw[if_pos h,if_pos (by omega)]
 ·rw[if_neg h,if_neg (by omega)]
  dsimp only
  congr 2
  by_cases g:(pfxR l (bWhole l (pfxFirst l i))).1 > bWhole l (pfxFirst l i)
  ·rw[if_pos g,if_pos (by omega)]
  ·rw[if_neg g,if_neg (by omega)]
theorem zod (i:Nat):num l' (n+i)=((num l i).1,n+(num l i).2):=by
 unfold num;rw[zoo H];dsimp only;rw[H.at]
 split
 ·rfl
 ·split
  ·rfl
  ·split <;> rfl
theorem zkJ (i:Nat):tq l' (n+i)=tq l i:=by
 unfold tq;rw[H.at,H.at1,H.at2]
theorem zft:∀ (k i:Nat),endB l' k (n+i)=(endB l k i).map (n + ·)
 | 0,i=>rfl
 | k+1,i=>by
  simp only[endB];rw[zkJ H,H.at,show n+i+1=n+(i+1) from rfl,zkJ H,show n+i+4=n+(i+4) from rfl,zft k (i+4),zft k (i+1)]
  split
  ·rfl
  ·split
   ·rfl
   ·split <;> rfl
theorem zfv:∀ (k i:Nat),endQ l' k (n+i)=(endQ l k i).map (n + ·)
 | 0,i=>rfl
 | k+1,i=>by
  simp only[endQ];rw[H.at,show n+i+1=n+(i+1) from rfl,H.at,show n+i+2=n+(i+2) from rfl,zfv k (i+2),zfv k (i+1)]
  split
  ·rfl
  ·split
   ·split <;> rfl
   ·split <;> rfl
theorem zhV (p i:Nat):insZ l' (n+p) (n+i)=insZ l p i:=by
 unfold insZ;rw[← List.drop_drop,H.dr,show n+i - (n+p)=i - p by omega]
omit H in
theorem zeg (l:List Int):∀ (k k' i:Nat),l.length+1≤k+i→l.length+1≤k'+i→endB l k i=endB l k' i
 | 0,0,i,h,h'=>rfl
 | 0,k'+1,i,h,h'=>by
  have e:cAt l i = -1:=zaW (by omega)
  have t:tq l i=false:=by unfold tq;rw[e];rfl
  simp only[endB,e,t];rfl
 | k+1,0,i,h,h'=>by
  have e:cAt l i = -1:=zaW (by omega)
  have t:tq l i=false:=by unfold tq;rw[e];rfl
  simp only[endB,e,t];rfl
 | k+1,k'+1,i,h,h'=>by
  simp only[endB];rw[zeg l k k' (i+4) (by omega) (by omega),zeg l k k' (i+1) (by omega) (by omega)]
omit H in
theorem zei (l:List Int):∀ (k k' i:Nat),l.length+1≤k+i→l.length+1≤k'+i→endQ l k i=endQ l k' i
 | 0,0,i,h,h'=>rfl
 | 0,k'+1,i,h,h'=>by
  have e:cAt l i = -1:=zaW (by omega)
  simp only[endQ,e];rfl
 | k+1,0,i,h,h'=>by
  have e:cAt l i = -1:=zaW (by omega)
  simp only[endQ,e];rfl
 | k+1,k'+1,i,h,h'=>by
  simp only[endQ];rw[zei l k k' (i+2) (by omega) (by omega),zei l k k' (i+1) (by omega) (by omega)]
theorem zno (bS:List Int→ByteArray) (i:Nat):blc bS l' (n+i)=((blc bS l i).1,n+(blc bS l i).2.1,(blc bS l i).2.2):=by
 unfold blc;rw[H.len,show n+i+3=n+(i+3) from rfl,zft H,zeg l (n+l.length+2) (l.length+2) (i+3) (by omega) (by omega)]
 cases endB l (l.length+2) (i+3) with
 | none=>rfl
 | some j =>
  show (7,n+j+3,bS (insZ l' (n+i+3) (n+j)))=_
  rw[show n+i+3=n+(i+3) from rfl,zhV H]
  rfl
theorem zoq (i:Nat):qtd l' (n+i)=((qtd l i).1,n+(qtd l i).2.1,(qtd l i).2.2):=by
 unfold qtd;rw[H.len,show n+i+1=n+(i+1) from rfl,zfv H,zei l (n+l.length+2) (l.length+2) (i+1) (by omega) (by omega)]
 cases endQ l (l.length+2) (i+1) with
 | none=>rfl
 | some j =>
  show qtdR l' (n+i) (some (n+j))=_
  unfold qtdR;dsimp only;rw[show n+i+1=n+(i+1) from rfl,zhV H]
  cases quo (insZ l (i+1) j) <;> rfl
theorem zos (cl:Bool) (i:Nat):rdG l' cl (n+i)=((rdG l cl i).1,n+(rdG l cl i).2.1,(rdG l cl i).2.2):=by
 unfold rdG;rw[H.at,H.at1,H.at2,show n+i+1=n+(i+1) from rfl,zn8 H,zod H,zkJ H,zno H,zoq H]
 have h1:(n+i=l'.length∧cl=true) ↔ (i=l.length∧cl=true):=by rw[H.len];constructor <;> (rintro ⟨a,b⟩;exact⟨by omega,b⟩)
 by_cases h0:i=l.length∧cl=true
 ·rw[if_pos h0,if_pos (h1.2 h0)]
 ·rw[if_neg h0,if_neg (fun x=>h0 (h1.1 x))]
  split
  ·split <;> rfl
  ·split
   ·rfl
   ·split
    ·rfl
    ·split
     ·rfl
     ·split
      ·rfl
      ·split <;> rfl
def shT (l':List Int) (n:Nat) (t:Tk):Tk:=⟨t.k,(posT l' (n+t.fr)).1,(posT l' (n+t.fr)).2,n+t.fr,n+t.to,t.tx,t.va⟩
theorem zoK (cl:Bool) (i:Nat):tkG l' cl (n+i)=shT l' n (tkG l cl i):=by
 unfold tkG shT;rw[znU H,zos H];dsimp only
 congr 2
 obtain⟨a,ha⟩:∃ a,a=(rdG l cl (ign l false i)).2.1:=⟨_,rfl⟩;obtain⟨b,hb⟩:∃ b,b=ign l false i:=⟨_,rfl⟩;rw[← ha,← hb,List.drop_take,List.drop_take,← List.drop_drop,H.dr,show n+a - (n+b)=a - b by omega]
theorem zgM (cl:Bool):∀ (f i:Nat),tksGF l' cl f (n+i)=(tksGF l cl f i).map (shT l' n)
 | 0,i=>rfl
 | f+1,i=>by
  simp only[tksGF];rw[zoK H];have e:(shT l' n (tkG l cl i)).k=(tkG l cl i).k:=rfl;have e2:(shT l' n (tkG l cl i)).to=n+(tkG l cl i).to:=rfl;rw[e,e2]
  split
  ·rfl
  ·rw[zgM cl f _]
   rfl
theorem zl0 (cl:Bool) {i:Nat} (hi:i≤l.length):tksG l' cl (n+i)=(tksG l cl i).map (shT l' n):=by
 unfold tksG;rw[zdE l' cl (l'.length+1) (l.length+1) (n+i) (by omega) (by rw[H.len];omega) (by rw[H.len];omega)]
 exact zgM H cl _ i
end
theorem zii {l:List Int} {cl:Bool} {i:Nat} (hi:i≤l.length) (h:(rdG l cl i).1=0):i=l.length∧cl=true:=by
 by_cases h0:i=l.length∧cl=true
 ·exact h0
 ·exfalso
  unfold rdG at h;rw[if_neg h0] at h
  split at h
  ·split at h <;> cases h
  ·split at h
   ·cases h
   ·split at h
    ·cases h
    ·split at h
     ·exact (zmQ l i hi).2.2.2 h
     ·split at h
      ·exact (zmg sv.bS l i hi).2.2.2 h
      ·split at h
       ·exact (zm3 l i hi).2.2.2 h
       ·cases h
theorem zcF {l l':List Int} (H:Loc l l' l.length):∀ (k:Nat) (b:Bool) (i:Nat),l.length≤i+k→i≤l.length→ign l b i=l.length→ign l' b i=ign l' false (l.length+1)
 | 0,b,i,hk,hi,h=>by
  obtain rfl:i=l.length:=by omega
  cases b
  ·rw[zgk l' l.length,H.nl];rfl
  ·rw[zgl l' l.length,H.nl];rfl
 | k+1,b,i,hk,hi,h=>by
  rcases Nat.lt_or_ge i l.length with g | g
  ·have hc:=H.at_ g
   cases b with
   | false =>
    rw[zgk l i] at h;rw[zgk l' i,hc]
    split
    ·rename_i h3;rw[if_pos h3] at h;exact zcF H k false (i+1) (by omega) (by omega) h
    ·rename_i h3;rw[if_neg h3] at h
     split
     ·rename_i h4;rw[if_pos h4] at h;exact zcF H k true (i+1) (by omega) (by omega) h
     ·rename_i h4;rw[if_neg h4] at h;omega
   | true =>
    rw[zgl l i] at h;rw[zgl l' i,hc]
    split
    ·rename_i h3;rw[if_pos h3] at h;exact zcF H k false (i+1) (by omega) (by omega) h
    ·rename_i h3;rw[if_neg h3] at h
     split
     ·rename_i h4;rw[if_pos h4] at h;exact zcF H k true (i+1) (by omega) (by omega) h
     ·rename_i h4;rw[if_neg h4] at h;omega
  ·exact zcF H 0 b i (by omega) hi h
theorem zkH {l:List Int} {cl:Bool} {i j:Nat} (hi:i≤l.length) (hj:j≤l.length) (h:ign l false i=ign l false j):tksG l cl i=tksG l cl j:=by
 have e:tkG l cl i=tkG l cl j:=by unfold tkG;rw[h]
 by_cases he:(tkG l cl i).k=0∨(tkG l cl i).k=1
 ·rw[zbM he,zbM (by rw[← e];exact he),e]
 ·rw[zch hi he,zch hj (by rw[← e];exact he),e]
theorem zip {l l':List Int} (H:Loc l l' l.length) {cl cl':Bool}:∀ (m i:Nat) (t:Tk),i≤l.length→(tksG l cl i)[m]? = some t→t.k=0→tksG l' cl' i=(tksG l cl i).take m ++ tksG l' cl' (l.length+1)
 | m,i,t,hi,hm,h0=>by
  have hlt:=H.lt;have hle:=zdN l cl i hi
  by_cases he:(tkG l cl i).k=0∨(tkG l cl i).k=1
  ·rw[zbM he] at hm
   cases m with
   | succ m=>simp at hm
   | zero =>
    simp at hm;subst hm;have hz:=zii ((zek l false i).2 hi) h0;rw[List.take_zero,List.nil_append];exact zkH (by omega) (by omega) (zcF H l.length false i (by omega) hi hz.1)
  ·have e0:(tkG l cl i).k ≠ 0:=fun e=>he (.inl e)
   have e1:(tkG l cl i).k ≠ 1:=fun e=>he (.inr e)
   have hgo:=zch hi he;have hk:=zoJ H (cl':=cl') hi e0 e1 hle.2.1
   cases m with
   | zero=>rw[hgo] at hm;simp at hm;subst hm;exact absurd h0 e0
   | succ m =>
    rw[hgo] at hm;simp at hm;have ih:=zip H (cl:=cl) (cl':=cl') m (tkG l cl i).to t hle.2.1 hm h0;rw[hgo,zch (l:=l') (cl:=cl') (by omega) (by rw[hk];exact he),hk,ih]
    rfl
end Go.Proofs.YtifbkdicglcogaaGreat.lx
namespace Go.Proofs.YtifbkdicglcogaaGreat.cu
open dt (Dt Kp RowAt Ow Grow)
open mem (decF decZ putB scB Byt posT enB)
open lx (toks chs cln tksG tkG shT)
theorem EqLs.symm {R R':Dt→Dt→Prop} {l l':List Dt} (h:EqLs R l l') (k:∀ x y,R x y→R' y x):EqLs R' l' l:=⟨h.1.symm,fun i x y hx hy=>k y x (h.2 i y x hy hx)⟩
theorem EqL.symm {pl:Bool}:∀ {f:Nat} {d e:Dt},EqL pl f d e→EqL pl f e d
 | 0,d,e,h=>h.elim
 | f+1,d,e,⟨k,tx,bl,its,its',fls,fls',ln,co,ln',co',h1,h2,h3,h4,h5,h6,h7⟩ =>
  ⟨k,tx,bl,its',its,fls',fls,ln',co',ln,co,h2,h1,fun p=>⟨(h3 p).1.symm,(h3 p).2.symm⟩,h4.symm,h5.symm,fun i x y hx hy=>(h6 i y x hy hx).symm,fun i x y hx hy=>by
   obtain⟨nm,v,v',a,b,a',b',e1,e2,e3,e4⟩:=h7 i y x hy hx
   exact⟨nm,v',v,a',b',a,b,e2,e1,fun p=>⟨(e3 p).1.symm,(e3 p).2.symm⟩,e4.symm⟩⟩
theorem EqA.symm {pl:Bool} {f:Nat} {x y:Dt} (h:EqA pl f x y):EqA pl f y x:=by
 obtain⟨nm,v,v',a,b,a',b',e1,e2,e3,e4⟩:=h;exact⟨nm,v',v,a',b',a,b,e2,e1,fun p=>⟨(e3 p).1.symm,(e3 p).2.symm⟩,e4.symm⟩
theorem EqR.symm {pl:Bool} {f:Nat} {x y:Dt} (h:EqR pl f x y):EqR pl f y x:=by
 obtain⟨nm,v,v',a,b,a',b',e1,e2,e3,e4⟩:=h;exact⟨nm,v',v,a',b',a,b,e2,e1,fun p=>⟨(e3 p).1.symm,(e3 p).2.symm⟩,EqLs.symm e4 fun _ _=>EqA.symm⟩
theorem zjs {zs:List Int} (h:zs.all scB=true) (r:List Int):decZ (zs.flatMap putB ++ r)=(zs ++ (decZ r).1,(zs.flatMap putB).length+(decZ r).2):=by
 have hlen:zs.length≤(zs.flatMap putB).length:=mem.zg4 _;unfold decZ;rw[zd8 _ (zs.length+(zs.flatMap putB ++ r).length) _ (lr _) (by omega),zhF _ _ _ h]
 rw[zd8 _ r.length r (by rw[List.length_append];omega) (lr _)]
theorem zny {zs:List Int} (h:zs.all scB=true) (r:List Int):chs (zs.flatMap putB ++ r)=zs ++ chs r:=by unfold chs;rw[zjs h]
theorem znz {zs:List Int} (h:zs.all scB=true) (r:List Int):cln (zs.flatMap putB ++ r)=cln r:=by
 unfold cln;rw[zjs h,List.length_append];exact decide_eq_decide.2 (by dsimp only;omega)
theorem ziE {z:List Int} (hz:Byt z) (hc:cln z=true):z=(chs z).flatMap putB∧(chs z).all scB=true:=by
 have h:=mem.zbT z.length z hz;have h2:(decZ z).2=z.length:=of_decide_eq_true hc;unfold decZ at h2;refine⟨?_,h.2.2.1⟩
 have:=h.1;rw[h2,List.take_length] at this;exact this.symm
theorem ziq (l:List Int) (cl:Bool):∀ (m i:Nat) (t:Tk),i≤l.length→(tksG l cl i)[m]? = some t→t.k=0→cl=true
 | 0,i,t,hi,h,hk=>by
  have h0:(tksG l cl i)[0]? = some (tkG l cl i):=by
   by_cases he:(tkG l cl i).k=0∨(tkG l cl i).k=1
   ·rw[lx.zbM he];rfl
   ·rw[lx.zch hi he];rfl
  rw[h0] at h;obtain rfl:=Option.some.inj h;exact (lx.zii ((lx.zek l false i).2 hi) hk).2
 | m+1,i,t,hi,h,hk=>by
  have hle:=lx.zdN l cl i hi
  by_cases he:(tkG l cl i).k=0∨(tkG l cl i).k=1
  ·rw[lx.zbM he] at h;simp at h
  ·rw[lx.zch hi he] at h
   exact ziq l cl m _ t hle.2.1 (by simpa using h) hk
theorem zec (D:LitR):∀ (g:Nat) (l:List Dt) (c:Cu) (r:List Dt),(defsF D g l c).1=some r→0<r.length∧l.length≤r.length
 | 0,l,c,r,h=>by cases h
 | g+1,l,c,r,h=>by
  simp only[defsF] at h
  split at h
  ·cases hq:(D c).1 with
   | none=>rw[hq] at h;cases h
   | some d =>
    rw[hq] at h;have:=zec D g _ _ r h;simp at this;exact⟨this.1,by omega⟩
  ·rename_i hc
   dsimp only at h
   split at h
   ·obtain rfl:=Option.some.inj h
    have:l.length ≠ 0:=fun e=>hc (.inl e)
    exact⟨by omega,lr _⟩
   ·cases h
theorem EqNm.symm {pl:Bool} {x y:Nm} (h:EqNm pl x y):EqNm pl y x:=⟨h.1.symm,fun p=>⟨(h.2 p).1.symm,(h.2 p).2.symm⟩⟩
theorem EqN.symm {pl:Bool} {x y:Dt} (h:EqN pl x y):EqN pl y x:=by
 obtain⟨a,b,e1,e2,e3⟩:=h;exact⟨b,a,e2,e1,e3.symm⟩
theorem EqI.symm {pl:Bool} {f:Nat} {x y:Dt} (h:EqI pl f x y):EqI pl f y x:=by
 obtain⟨n,m,m',tn,tw,hd,v,v',ds,ds',e1,e2,e3,e4,e5⟩:=h;exact⟨n,m',m,tn,tw,hd,v',v,ds',ds,e2,e1,e3.symm,e4.symm,EqLs.symm e5 fun _ _=>EqR.symm⟩
theorem EqFd.symm {pl:Bool} {f:Nat} {x y:Dt} (h:EqFd pl f x y):EqFd pl f y x:=by
 obtain⟨n,m,m',al,al',tn,tw,ds,ds',e1,e2,e3,e4,e5⟩:=h;exact⟨n,m',m,al',al,tn,tw,ds',ds,e2,e1,e3.symm,EqLs.symm e4 fun _ _=>EqI.symm,EqLs.symm e5 fun _ _=>EqR.symm⟩
theorem EqC.symm {pl:Bool} {f:Nat} {x y:Dt} (h:EqC pl f x y):EqC pl f y x:=by
 obtain⟨n,m,m',ds,ds',e1,e2,e3,e5⟩:=h;exact⟨n,m',m,ds',ds,e2,e1,e3.symm,EqLs.symm e5 fun _ _=>EqR.symm⟩
theorem EqRt.symm {pl:Bool} {x y:Dt} (h:EqRt pl x y):EqRt pl y x:=by
 obtain⟨k,ty,a,b,a',b',e1,e2,e3⟩:=h;exact⟨k,ty,a',b',a,b,e2,e1,fun p=>⟨(e3 p).1.symm,(e3 p).2.symm⟩⟩
theorem EqD.symm {pl:Bool} {f:Nat} {x y:Dt} (h:EqD pl f x y):EqD pl f y x:=by
 obtain⟨s,s',e1,e2,q⟩:=h;exact⟨s',s,e2,e1,q.k.symm,q.ex.symm,q.n.symm,q.nm.symm,EqLs.symm q.ifs fun _ _=>EqN.symm,EqLs.symm q.ds fun _ _=>EqR.symm,EqLs.symm q.fs fun _ _=>EqFd.symm,EqLs.symm q.ins fun _ _=>EqI.symm,EqLs.symm q.ms fun _ _=>EqN.symm,EqLs.symm q.vs fun _ _=>EqC.symm,EqLs.symm q.rs fun _ _=>EqRt.symm,q.rp.symm,EqLs.symm q.ps fun _ _=>EqN.symm,fun p=>⟨(q.pos p).1.symm,(q.pos p).2.symm⟩⟩
theorem zgJ {m b b':Nat} {D D':LitR} (hG:Goes D) (hG':Goes D') (o:Ok3 0 D b) (h:Jb 0 m D D' b b'):∀ (g g':Nat) (l:List Dt) (c c':Cu),c.Ok→c'.Ok→Sj m c c'→c.ts.length≤b+c.ix→c'.ts.length≤b'+c'.ix→c.ts.length≤g+c.ix→c'.ts.length≤g'+c'.ix→Inv c→c.kd=0→(∀ i,i<m→(c.ts.getD i Tk.zero).k ≠ 0)→∀ r,(defsF D g l c).1=some r→∃ g2 c2,defsF D' g' l c'=defsF D' g2 r c2∧Stp c' c2∧c2.ix=m∧c2.op=c.op∧c2.kd=0∧c'.ts.length≤g2+c2.ix
 | 0,g',l,c,c',hc,hc',hs,hb,hb',hg,hg',hi,h0,hk,r,hr=>by have:=hc.lt;omega
 | g+1,0,l,c,c',hc,hc',hs,hb,hb',hg,hg',hi,h0,hk,r,hr=>by have:=hc'.lt;omega
 | g+1,g'+1,l,c,c',hc,hc',hs,hb,hb',hg,hg',hi,h0,hk,r,hr=>by
  have hfin:=(zcQ D (g+1) l c (by rw[hr];rfl)).1
  have hr0:=hr;simp only[defsF] at hr hfin
  by_cases hx:l.length=0∨c.tok.k ≠ 0
  ·rw[if_pos hx] at hr hfin
   have hgo:=hG c hc;have hgo':=hG' c' hc'
   cases he:(D c).1 with
   | none=>rw[he] at hr;cases hr
   | some d =>
    rw[he] at hr hfin;dsimp only at hr hfin;have i1:=hgo.2 (by rw[he];rfl)
    have hlt:=hgo.1.ok.lt;rw[hgo.1.ts,hs.le] at hlt;have hi1:c.ix<m:=by omega
    have k0:(D c).2.kd=0:=Classical.byContradiction fun x=>by
     rw[zge o.sti g _ _ x] at hfin;exact x hfin
    obtain⟨e1,e2⟩:=h.near c c' hc hc' hs (hs.le' hc) hb hb' k0;rw[he] at e1;have i2:=hgo'.2 (by rw[e1];rfl)
    obtain⟨o1,j1⟩:=o.bal c hc hb hi h0 k0;obtain⟨g2,c2,q2,q3,q4,q5,q6,q7⟩:=zgJ hG hG' o h g g' (l ++ [d]) _ _ hgo.1.ok hgo'.1.ok e2 (by rw[hgo.1.ts];omega) (by rw[hgo'.1.ts];omega) (by rw[hgo.1.ts];omega) (by rw[hgo'.1.ts];omega) j1 k0 (by rw[hgo.1.ts];exact hk) r hr
    refine⟨g2,c2,?_,hgo'.1.trans q3,q4,by rw[q5,o1],q6,by rw[hgo'.1.ts] at q7;exact q7⟩
    rw[← q2];have ht:=hs.tok hi1;simp only[defsF];rw[if_pos (by rw[ht];exact hx),e1]
  ·rw[if_neg hx] at hr
   have hr':l=r:=by
    dsimp only at hr
    split at hr
    ·exact Option.some.inj hr
    ·cases hr
   subst hr';have ht:c.tok.k=0:=Classical.byContradiction fun x=>hx (.inr x)
   have hix:c.ix=m:=by
    have hle:=hs.le' hc
    rcases Nat.lt_or_ge c.ix m with g | g
    ·exact absurd ht (hk c.ix g)
    ·omega
   exact⟨g'+1,c',rfl,Stp.refl hc',by rw[hs.ix,hix],by rw[hs.op],by rw[hs.kd,h0],hg'⟩
theorem zil (z:List Int) (d:Int) {l:List Dt} (h:(sdocG z d).1=some l):cln z=true∧(toks z).length=(sdocG z d).2.ix+1∧0<(sdocG z d).2.ix∧(∃ t,(toks z)[(sdocG z d).2.ix]? = some t∧t.k=0)∧Bgn ((toks z).getD 0 Tk.zero):=by
 have hok:=zbJ z d;obtain⟨k0,kt⟩:=zcQ _ _ _ _ (show (sdocS (newG z d)).1.isSome=true by unfold sdocG at h;rw[h];rfl)
 have kt:(sdocG z d).2.tok.k=0:=kt;have hst:Stp (newG z d) (sdocG z d).2:=(zkB z d).1;have hg':=zkC z d;have hl:=zdn (chs z) (cln z) _ 0 _ (Nat.zero_le _) hg' (.inl kt);have hlt:=hok.lt
 have hgo:(newG z d).ix<(sdocG z d).2.ix∧Bgn (newG z d).tok:=by
  unfold sdocG sdocS at h ⊢;obtain⟨g,hg⟩:∃ g,(newG z d).ts.length=g+1:=⟨(newG z d).ts.length - 1,by omega⟩
  obtain⟨n,hn⟩:∃ n,n=(newG z d).ts.length:=⟨_,rfl⟩;rw[← hn] at h ⊢;have hg2:n=g+1:=hn.trans hg;have e:∀ x,defsF (sdN n) n [] x=defsF (sdN n) (g+1) [] x:=fun x=>by rw[← hg2]
  rw[e] at h ⊢;simp only[defsF] at h ⊢;rw[if_pos (.inl rfl)] at h ⊢
  cases hq:(sdN n (newG z d)).1 with
  | none=>rw[hq] at h;cases h
  | some d' =>
   have hs:(sdN n (newG z d)).1.isSome=true:=by rw[hq];rfl
   exact⟨Nat.lt_of_lt_of_le ((zeH n _ hok).2 hs) (zco (zeH n) g _ _ (zeH n _ hok).1.ok).ix,(znB (N:=n) (ze8 (E:=defT (typF n) (litF true n) n) hs)).1⟩
 exact⟨ziq _ _ _ _ _ (Nat.zero_le _) hg' kt,hl,hgo.1,⟨_,hg',kt⟩,hgo.2⟩
theorem zhm (z1 z2:List Int) (hz1:Byt z1) (d:Int) {l1 l2:List Dt} (h1:(sdocG z1 d).1=some l1) (h2:(sdocG z2 d).1=some l2) :
  ∃ f1 f2 r2,(sdocG (z1 ++ 10 :: z2) d).1=some (l1 ++ r2)∧EqLs (EqD true f1) l1 l1∧EqLs (EqD false f2) r2 l2∧0<l1.length∧0<l2.length:=by
 obtain⟨cl1,len1,pos1,⟨t1,ht1,hk1⟩,_⟩:=zil z1 d h1;obtain⟨cl2,len2,pos2,⟨t2,ht2,hk2⟩,hbg⟩:=zil z2 d h2;obtain⟨n1,hn1⟩:∃ n,n=(sdocG z1 d).2.ix:=⟨_,rfl⟩;rw[← hn1] at len1 pos1 ht1;obtain⟨hfl,hsc⟩:=ziE hz1 cl1
 have hsc':(chs z1 ++ [10]).all scB=true:=by
  rw[List.all_append,hsc];rfl
 have hp:putB 10=[10]:=mem.zeE (by omega)
 have hzz:z1 ++ 10 :: z2=(chs z1 ++ [10]).flatMap putB ++ z2:=by
  rw[List.flatMap_append,← hfl];simp[hp]
 have hch:chs (z1 ++ 10 :: z2)=chs z1 ++ 10 :: chs z2:=by
  rw[hzz,zny hsc'];simp
 have hcl:cln (z1 ++ 10 :: z2)=cln z2:=by rw[hzz,znz hsc']
 have hloc:lx.Loc (chs z1) (chs z1 ++ 10 :: chs z2) (chs z1).length:=by
  refine⟨by simp,lr _,?_⟩
  rw[lx.zf9 (by simp),List.getD_eq_getElem?_getD,List.getElem?_append_right (lr _),Nat.sub_self]
  rfl
 have hshf:lx.Shf (chs z2) (chs z1 ++ 10 :: chs z2) ((chs z1).length+1):=by
  have:=lx.Shf.of (chs z1 ++ [10]) (chs z2)
  simpa using this
 have htk:toks (z1 ++ 10 :: z2)=(toks z1).take n1 ++ (toks z2).map (shT (chs z1 ++ 10 :: chs z2) ((chs z1).length+1)):=by
  unfold toks;rw[hch,hcl,lx.zip hloc n1 0 t1 (Nat.zero_le _) ht1 hk1,← lx.zl0 hshf (cln z2) (Nat.zero_le _)]
 obtain⟨z,hz⟩:∃ z,z=z1 ++ 10 :: z2:=⟨_,rfl⟩;rw[← hz] at htk ⊢;have hok1:=zbJ z1 d;have hok2:=zbJ z2 d;have hok:=zbJ z d;obtain⟨c1,hc1⟩:∃ c,c=newG z1 d:=⟨_,rfl⟩;obtain⟨c,hc⟩:∃ c,c=newG z d:=⟨_,rfl⟩;obtain⟨cb,hcb⟩:∃ c,c=newG z2 d:=⟨_,rfl⟩;unfold sdocG at h1 h2 ⊢;rw[← hc1] at h1 hok1;rw[← hc] at hok ⊢;have hts1:c1.ts=toks z1:=by rw[hc1];rfl
 have hts:c.ts=toks z:=by rw[hc];rfl
 have htsb:cb.ts=toks z2:=by rw[hcb];rfl
 have hlt:((toks z1).take n1).length=n1:=by simp;omega
 have hg2:∀ i,i<(toks z2).length→EqT false ((toks z2).getD i Tk.zero) ((toks z).getD (i+n1) Tk.zero):=fun i hi=>by
  rw[htk,List.getD_eq_getElem?_getD,List.getD_eq_getElem?_getD,List.getElem?_append_right (by omega),hlt,show i+n1 - n1=i by omega,List.getElem?_map,List.getElem?_eq_getElem hi]
  exact⟨rfl,rfl,rfl,fun e=>by cases e⟩
 have hs:Sj n1 c1 c:=by
  refine⟨by rw[hc,hc1];rfl,by rw[hc,hc1];rfl,by rw[hc,hc1];rfl,by rw[hc,hc1];rfl,fun q hq=>?_,by rw[hts1];exact len1,?_,?_⟩
  ·rw[hts,hts1,htk,List.getElem?_append_left (by omega),List.getElem?_take,if_pos hq]
  ·rw[hts1,List.getD_eq_getElem?_getD,ht1];exact hk1
  ·rw[hts]
   have:=hg2 0 (by omega)
   rw[Nat.zero_add] at this;unfold Bgn at hbg ⊢;rw[this.1,this.2.1];exact hbg
 have hnz:∀ i,i<n1→(c1.ts.getD i Tk.zero).k ≠ 0:=fun i hi e=>by
  rw[hts1] at e;have hil:i<(toks z1).length:=by omega
  have hgi:(toks z1)[i]? = some ((toks z1).getD i Tk.zero):=by rw[List.getD_eq_getElem?_getD,List.getElem?_eq_getElem hil];rfl
  have h9:(toks z1).length=i+1:=zdn (chs z1) (cln z1) i 0 _ (Nat.zero_le _) hgi (.inl e);omega
 have hN1:0<c1.ts.length:=Nat.lt_of_le_of_lt (Nat.zero_le _) hok1.lt;obtain⟨g2,c2,q2,q3,q4,q5,q6,q7⟩:=zgJ (m:=n1) (zeH c1.ts.length) (zeH c.ts.length) (sd_3 _) (sd_j _ _) c1.ts.length c.ts.length [] c1 c hok1 hok hs (by omega) (by omega) (by omega) (by omega) (by rw[hc1];rfl) (by rw[hc1];rfl) hnz l1 h1
 have hsb:Sf false (sdocS cb).2.ix n1 0 cb c2:=by
  refine⟨?_,?_,?_,?_,fun i hi=>?_⟩
  ·rw[q4,hcb];show n1=0+n1;omega
  ·rw[q5,hc1,hcb];rfl
  ·rw[q3.mo,hc,hcb];rfl
  ·rw[q6,hcb];rfl
  ·rw[htsb,q3.ts,hts]
   exact hg2 i (by
    have:(sdocS cb).2.ix=(sdocG z2 d).2.ix:=by rw[hcb];rfl
    omega)
 have hokb:cb.Ok:=by rw[hcb];exact hok2
 have hNb:0<cb.ts.length:=Nat.lt_of_le_of_lt (Nat.zero_le _) hokb.lt;have hb0:cb.ix=0:=by rw[hcb];rfl
 have hne:cb.tok.k ≠ 0:=fun e=>by
  have hgi:=cb.get hokb.lt;rw[htsb,hb0] at hgi;have h9:(toks z2).length=0+1:=zdn (chs z2) (cln z2) 0 0 _ (Nat.zero_le _) hgi (.inl e);omega
 have hx:=zg0 (pl:=false) (m:=(sdocS cb).2.ix) (s:=n1) (zeH cb.ts.length) (zeH c.ts.length) (sd_4 hNb c.ts.length) l1 cb.ts.length g2 [] [] cb c2 hokb q3.ok hsb (by omega) (by rw[q3.ts];omega) (by omega) (by rw[q3.ts];exact q7) EqLs.nil (.inr (.inr hne)) (lr _)
 rcases hx.1 with ⟨r,r',y1,y2,y3⟩ | ⟨y1,y2⟩
 ·have y4:(sdocS cb).1=some r:=y1
  rw[hcb] at y4;obtain rfl:=Option.some.inj (h2.symm.trans y4);rw[List.append_nil] at y2;have hl1:=(zec _ _ _ _ _ h1).1;have hl2:=(zec _ _ _ _ _ h2).1;refine⟨_,_,r',?_,zi0 true c1 hok1 h1,EqLs.symm y3 fun _ _=>EqD.symm,hl1,hl2⟩
  show (defsF (sdN c.ts.length) c.ts.length [] c).1=_
  rw[q2];exact y2
 ·have y4:(sdocS cb).1=none:=y1
  rw[hcb] at y4;exact absurd (h2.symm.trans y4) (by intro e;cases e)
open Go.ChangeShapes Go.WideShapes Go.ChangeAt Go.RowKit
open ints (Hi uh)
open dt (Dt Kp RowAt Ow Grow OwIn)
open mem (Row)
def LsC (w:World) (k:Nat) (l:List Dt) (a:Option Addr) (c:Nat) (F:List Nat):Prop:=Ls w k l a F∧l.length≤c∧c≤maxLen
theorem zdg {w:World} {m:Nm} {cs:List Value} {F:List Nat} (h:Ow w (namD m) cs F) :
  cs=[.string m.1,.int .i64 m.2.1,.int .i64 m.2.2]:=by
 unfold namD Ow at h;obtain⟨d0,rfl,v0,h⟩:=h;unfold Ow at h;obtain⟨d1,rfl,v1,h⟩:=h;unfold Ow at h;obtain⟨d2,rfl,v2,h⟩:=h;unfold Ow at h;obtain⟨rfl,rfl⟩:=h;rfl
theorem zdi {w:World} {k:Int} {ty:ByteArray} {x y:Int} {cs:List Value} {F:List Nat} (h:Ow w (rooD k ty x y) cs F) :
  cs=[.int .i64 k,.string ty,.int .i64 x,.int .i64 y]:=by
 unfold rooD Ow at h;obtain⟨d0,rfl,v0,h⟩:=h;unfold Ow at h;obtain⟨d1,rfl,v1,h⟩:=h;unfold Ow at h;obtain⟨d2,rfl,v2,h⟩:=h;unfold Ow at h;obtain⟨d3,rfl,v3,h⟩:=h;unfold Ow at h;obtain⟨rfl,rfl⟩:=h;rfl
theorem zc3 {w:World} {n:Nt} {m:Nm} {ds:List Dt} {cs:List Value} {F:List Nat} (h:Ow w (choD n m ds) cs F) :
  ∃ a1 c1,cs=[.bool n.1,.bool n.2.1,.string n.2.2,.string m.1,.slice a1 ds.length c1,.int .i64 m.2.1,.int .i64 m.2.2]∧LsC w 4 ds a1 c1 F:=by
 unfold choD ntD Ow at h;obtain⟨d0,rfl,v0,h⟩:=h;unfold Ow at h;obtain⟨d1,rfl,v1,h⟩:=h;unfold Ow at h;obtain⟨d2,rfl,v2,h⟩:=h;unfold Ow at h;obtain⟨d3,rfl,v3,h⟩:=h;unfold Ow at h;obtain⟨a1,na1,c1,d4,F4,G4,rfl,i4,j4,k4,m4,h,rfl⟩:=h;obtain⟨rfl,l4⟩:=zbH m4;unfold Ow at h;obtain⟨d5,rfl,v5,h⟩:=h;unfold Ow at h;obtain⟨d6,rfl,v6,h⟩:=h;unfold Ow at h;obtain⟨rfl,rfl⟩:=h
 exact⟨a1,c1,rfl,⟨l4.mono (fun b hb=>List.mem_append_left _ hb),i4,j4⟩⟩
theorem zdc {w:World} {n:Nt} {m:Nm} {tn tw:ByteArray} {hd:Bool} {k:Int} {tx:ByteArray} {bl:Bool} {its fls:Dt} {ln co:Int} {ds:List Dt} {cs:List Value} {F:List Nat} (h:Ow w (inpD n m tn tw hd (litD k tx bl its fls ln co) ds) cs F) :
  ∃ ai nai ci af naf cf a1 c1 G,cs=[.bool n.1,.bool n.2.1,.string n.2.2,.string m.1,.string tn,.string tw,.bool hd,.int .i64 k,.string tx,.bool bl,.slice ai nai ci,.slice af naf cf,.int .i64 ln,.int .i64 co,.slice a1 ds.length c1,.int .i64 m.2.1,.int .i64 m.2.2]∧Ow w (litD k tx bl its fls ln co) [.int .i64 k,.string tx,.bool bl,.slice ai nai ci,.slice af naf cf,.int .i64 ln,.int .i64 co] G∧(∀ b ∈ G,b ∈ F)∧LsC w 4 ds a1 c1 F:=by
 unfold inpD ntD litD at h;simp only[app] at h;unfold Ow at h;obtain⟨d0,rfl,v0,h⟩:=h;unfold Ow at h;obtain⟨d1,rfl,v1,h⟩:=h;unfold Ow at h;obtain⟨d2,rfl,v2,h⟩:=h;unfold Ow at h;obtain⟨d3,rfl,v3,h⟩:=h;unfold Ow at h;obtain⟨d4,rfl,v4,h⟩:=h;unfold Ow at h;obtain⟨d5,rfl,v5,h⟩:=h;unfold Ow at h;obtain⟨d6,rfl,v6,h⟩:=h;unfold Ow at h;obtain⟨d7,rfl,v7,h⟩:=h;unfold Ow at h
 obtain⟨d8,rfl,v8,h⟩:=h;unfold Ow at h;obtain⟨d9,rfl,v9,h⟩:=h;unfold Ow at h;obtain⟨ai,nai,ci,d10,F10,G10,rfl,i10,j10,k10,m10,h,rfl⟩:=h;unfold Ow at h;obtain⟨af,naf,cf,d11,F11,G11,rfl,i11,j11,k11,m11,h,rfl⟩:=h;unfold Ow at h;obtain⟨d12,rfl,v12,h⟩:=h;unfold Ow at h;obtain⟨d13,rfl,v13,h⟩:=h;unfold Ow at h;obtain⟨a1,na1,c1,d14,F14,G14,rfl,i14,j14,k14,m14,h,rfl⟩:=h
 obtain⟨rfl,l14⟩:=zbH m14;unfold Ow at h;obtain⟨d15,rfl,v15,h⟩:=h;unfold Ow at h;obtain⟨d16,rfl,v16,h⟩:=h;unfold Ow at h;obtain⟨rfl,rfl⟩:=h;refine⟨ai,nai,ci,af,naf,cf,a1,c1,F10 ++ (F11 ++ []),rfl,?_,?_,⟨l14.mono (fun b hb=>List.mem_append_right _ (List.mem_append_right _ (List.mem_append_left _ hb))),i14,j14⟩⟩
 ·unfold litD Ow
  refine⟨_,rfl,v7,?_⟩
  unfold Ow;refine⟨_,rfl,v8,?_⟩
  unfold Ow;refine⟨_,rfl,v9,?_⟩
  unfold Ow;refine⟨ai,nai,ci,_,F10,F11 ++ [],rfl,i10,j10,k10,m10,?_,rfl⟩
  unfold Ow;refine⟨af,naf,cf,_,F11,[],rfl,i11,j11,k11,m11,?_,rfl⟩
  unfold Ow;refine⟨_,rfl,v12,?_⟩
  unfold Ow;refine⟨_,rfl,v13,?_⟩
  unfold Ow;exact⟨rfl,rfl⟩
 ·intro b hb
  simp at hb ⊢
  rcases hb with hb | hb
  ·exact .inl hb
  ·exact .inr (.inl hb)
theorem zdW {w:World} {n:Nt} {m:Nm} {al:List Dt} {tn tw:ByteArray} {ds:List Dt} {cs:List Value} {F:List Nat} (h:Ow w (fdD n m al tn tw ds) cs F) :
  ∃ a1 c1 a2 c2,cs=[.bool n.1,.bool n.2.1,.string n.2.2,.string m.1,.slice a1 al.length c1,.string tn,.string tw,.slice a2 ds.length c2,.int .i64 m.2.1,.int .i64 m.2.2]∧LsC w 17 al a1 c1 F∧LsC w 4 ds a2 c2 F:=by
 unfold fdD ntD Ow at h;obtain⟨d0,rfl,v0,h⟩:=h;unfold Ow at h;obtain⟨d1,rfl,v1,h⟩:=h;unfold Ow at h;obtain⟨d2,rfl,v2,h⟩:=h;unfold Ow at h;obtain⟨d3,rfl,v3,h⟩:=h;unfold Ow at h;obtain⟨a1,na1,c1,d4,F4,G4,rfl,i4,j4,k4,m4,h,rfl⟩:=h;obtain⟨rfl,l4⟩:=zbH m4;unfold Ow at h;obtain⟨d5,rfl,v5,h⟩:=h;unfold Ow at h;obtain⟨d6,rfl,v6,h⟩:=h;unfold Ow at h;obtain⟨a2,na2,c2,d7,F7,G7,rfl,i7,j7,k7,m7,h,rfl⟩:=h
 obtain⟨rfl,l7⟩:=zbH m7;unfold Ow at h;obtain⟨d8,rfl,v8,h⟩:=h;unfold Ow at h;obtain⟨d9,rfl,v9,h⟩:=h;unfold Ow at h;obtain⟨rfl,rfl⟩:=h;exact⟨a1,c1,a2,c2,rfl,⟨l4.mono (fun b hb=>List.mem_append_left _ hb),i4,j4⟩,⟨l7.mono (fun b hb=>List.mem_append_right _ (List.mem_append_left _ hb)),i7,j7⟩⟩
theorem zd0 {w:World} {s:Sy} {cs:List Value} {F:List Nat} (h:Ow w (s.d) cs F) :
  ∃ a1 c1 a2 c2 a3 c3 a4 c4 a5 c5 a6 c6 a7 c7 a8 c8,cs=[.int .i64 s.k,.bool s.ex,.bool s.n.1,.bool s.n.2.1,.string s.n.2.2,.string s.nm,.slice a1 s.ifs.length c1,.slice a2 s.ds.length c2,.slice a3 s.fs.length c3,.slice a4 s.ins.length c4,.slice a5 s.ms.length c5,.slice a6 s.vs.length c6,.slice a7 s.rs.length c7,.bool s.rp,.slice a8 s.ps.length c8,.int .i64 s.ln,.int .i64 s.co]∧LsC w 3 s.ifs a1 c1 F∧LsC w 4 s.ds a2 c2 F∧LsC w 10 s.fs a3 c3 F∧LsC w 17 s.ins a4 c4 F∧LsC w 3 s.ms a5 c5 F∧LsC w 7 s.vs a6 c6 F∧LsC w 4 s.rs a7 c7 F∧LsC w 3 s.ps a8 c8 F:=by
 unfold Sy.d ntD Ow at h;obtain⟨d0,rfl,v0,h⟩:=h;unfold Ow at h;obtain⟨d1,rfl,v1,h⟩:=h;unfold Ow at h;obtain⟨d2,rfl,v2,h⟩:=h;unfold Ow at h;obtain⟨d3,rfl,v3,h⟩:=h;unfold Ow at h;obtain⟨d4,rfl,v4,h⟩:=h;unfold Ow at h;obtain⟨d5,rfl,v5,h⟩:=h;unfold Ow at h;obtain⟨a1,na1,c1,d6,F6,G6,rfl,i6,j6,k6,m6,h,rfl⟩:=h;obtain⟨rfl,l6⟩:=zbH m6;unfold Ow at h;obtain⟨a2,na2,c2,d7,F7,G7,rfl,i7,j7,k7,m7,h,rfl⟩:=h
 obtain⟨rfl,l7⟩:=zbH m7;unfold Ow at h;obtain⟨a3,na3,c3,d8,F8,G8,rfl,i8,j8,k8,m8,h,rfl⟩:=h;obtain⟨rfl,l8⟩:=zbH m8;unfold Ow at h;obtain⟨a4,na4,c4,d9,F9,G9,rfl,i9,j9,k9,m9,h,rfl⟩:=h;obtain⟨rfl,l9⟩:=zbH m9;unfold Ow at h;obtain⟨a5,na5,c5,d10,F10,G10,rfl,i10,j10,k10,m10,h,rfl⟩:=h;obtain⟨rfl,l10⟩:=zbH m10;unfold Ow at h;obtain⟨a6,na6,c6,d11,F11,G11,rfl,i11,j11,k11,m11,h,rfl⟩:=h
 obtain⟨rfl,l11⟩:=zbH m11;unfold Ow at h;obtain⟨a7,na7,c7,d12,F12,G12,rfl,i12,j12,k12,m12,h,rfl⟩:=h;obtain⟨rfl,l12⟩:=zbH m12;unfold Ow at h;obtain⟨d13,rfl,v13,h⟩:=h;unfold Ow at h;obtain⟨a8,na8,c8,d14,F14,G14,rfl,i14,j14,k14,m14,h,rfl⟩:=h;obtain⟨rfl,l14⟩:=zbH m14;unfold Ow at h;obtain⟨d15,rfl,v15,h⟩:=h;unfold Ow at h;obtain⟨d16,rfl,v16,h⟩:=h
 unfold Ow at h;obtain⟨rfl,rfl⟩:=h;exact⟨a1,c1,a2,c2,a3,c3,a4,c4,a5,c5,a6,c6,a7,c7,a8,c8,rfl,⟨l6.mono (fun b hb=>List.mem_append_left _ hb),i6,j6⟩,⟨l7.mono (fun b hb=>List.mem_append_right _ (List.mem_append_left _ hb)),i7,j7⟩,⟨l8.mono (fun b hb=>List.mem_append_right _ (List.mem_append_right _ (List.mem_append_left _ hb))),i8,j8⟩,⟨l9.mono (fun b hb=>List.mem_append_right _ (List.mem_append_right _ (List.mem_append_right _ (List.mem_append_left _ hb)))),i9,j9⟩,⟨l10.mono (fun b hb=>List.mem_append_right _ (List.mem_append_right _ (List.mem_append_right _ (List.mem_append_right _ (List.mem_append_left _ hb))))),i10,j10⟩,⟨l11.mono (fun b hb=>List.mem_append_right _ (List.mem_append_right _ (List.mem_append_right _ (List.mem_append_right _ (List.mem_append_right _ (List.mem_append_left _ hb)))))),i11,j11⟩,⟨l12.mono (fun b hb=>List.mem_append_right _ (List.mem_append_right _ (List.mem_append_right _ (List.mem_append_right _ (List.mem_append_right _ (List.mem_append_right _ (List.mem_append_left _ hb))))))),i12,j12⟩,⟨l14.mono (fun b hb=>List.mem_append_right _ (List.mem_append_right _ (List.mem_append_right _ (List.mem_append_right _ (List.mem_append_right _ (List.mem_append_right _ (List.mem_append_right _ (List.mem_append_left _ hb)))))))),i14,j14⟩⟩
end Go.Proofs.YtifbkdicglcogaaGreat.cu
