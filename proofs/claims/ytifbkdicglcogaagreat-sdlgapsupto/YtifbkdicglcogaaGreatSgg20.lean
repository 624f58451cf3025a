import Derived.Test.YtifbkdicglcogaaGreatSgg19
set_option linter.unusedVariables false
set_option linter.unusedSimpArgs false
namespace Go.Proofs.YtifbkdicglcogaaGreat.cu
open dt (Dt Kp RowAt Ow Grow)
def OD (R:Dt → Dt → Prop):Option Dt → Option Dt → Prop
 | none,none => True
 | some x,some y => R x y
 | _,_ => False
def OL (R:Dt → Dt → Prop):Option (List Dt) → Option (List Dt) → Prop
 | none,none => True
 | some x,some y => EqLs R x y
 | _,_ => False
theorem OD.map {R R':Dt → Dt → Prop} {a b:Option Dt} {f f':Dt → Dt} (h:OD R a b) (k:∀ x y,R x y → R' (f x) (f' y)):OD R' (a.map f) (b.map f'):=by
 cases a <;> cases b
 ·trivial
 ·exact h.elim
 ·exact h.elim
 ·exact k _ _ h
theorem OL.map {R R':Dt → Dt → Prop} {a b:Option (List Dt)} {f f':List Dt → Dt} (h:OL R a b) (k:∀ x y,EqLs R x y → R' (f x) (f' y)):OD R' (a.map f) (b.map f'):=by
 cases a <;> cases b
 ·trivial
 ·exact h.elim
 ·exact h.elim
 ·exact k _ _ h
theorem EqLs.nil {R:Dt → Dt → Prop}:EqLs R [] []:=⟨rfl,fun i x y hx => by simp at hx⟩
theorem EqLs.snoc {R:Dt → Dt → Prop} {l l':List Dt} {d d':Dt} (h:EqLs R l l') (hd:R d d'):EqLs R (l ++ [d]) (l' ++ [d']):=by
 refine ⟨by simp [h.1],fun i x y hx hy => ?_⟩
 rcases Nat.lt_or_ge i l.length with g | g
 ·rw [List.getElem?_append_left g] at hx
  rw [List.getElem?_append_left (by rw [← h.1];exact g)] at hy
  exact h.2 i x y hx hy
 ·rw [List.getElem?_append_right g] at hx
  rw [List.getElem?_append_right (by rw [← h.1];exact g),← h.1] at hy
  rcases Nat.eq_zero_or_pos (i - l.length) with k | k
  ·rw [k] at hx hy
   simp at hx hy
   subst hx;subst hy;exact hd
  ·rw [List.getElem?_eq_none (by simp;omega)] at hx
   cases hx
theorem OL.getD {R:Dt → Dt → Prop} {a b:Option (List Dt)} (h:OL R a b):EqLs R (a.getD []) (b.getD []):=by
 cases a <;> cases b
 ·exact EqLs.nil
 ·exact h.elim
 ·exact h.elim
 ·exact h
theorem OD.some {R:Dt → Dt → Prop} {d:Dt} {b:Option Dt} (h:OD R (some d) b):∃ d',b = some d' ∧ R d d':=by
 cases b with
 | none => exact h.elim
 | some d' => exact ⟨d',rfl,h⟩
theorem OD.none {R:Dt → Dt → Prop} {b:Option Dt} (h:OD R none b):b = none:=by
 cases b with
 | none => rfl
 | some d' => exact h.elim
theorem brkF_go (E:LitR) (r:ByteArray) (n:Nat) (hG:Goes E):∀ (g:Nat) (l:List Dt) (c:Cu),c.Ok → (brkF E r n g l c).1.isSome = true → c.ix < (brkF E r n g l c).2.ix
 | 0,l,c,h,hs => by cases hs
 | g + 1,l,c,h,hs => by
  simp only [brkF] at hs ⊢
  by_cases hq:l.length < n ∨ c.isP r = false
  ·rw [if_pos hq] at hs ⊢
   cases he:(E c).1 with
   | none => rw [he] at hs;cases hs
   | some d =>
    rw [he] at hs
    exact Nat.lt_of_le_of_lt (hG c h).1.ix (brkF_go E r n hG g _ _ (hG c h).1.ok hs)
  ·rw [if_neg hq]
   have hp:c.isP r = true:=by
    cases hp:c.isP r with
    | true => rfl
    | false => exact absurd (.inr hp) hq
   dsimp only
   rw [cls_yes hp]
   exact Nat.lt_succ_self _
section
variable {pl:Bool} {m s e:Nat} {P:Prop} {b b':Nat}
theorem Ok4.tb {Y Z:Type} {V':Y → Z → Prop} {F:Tk → Cu → Y × Cu} {F':Tk → Cu → Z × Cu} (k:∀ a a',Ok4 pl m s e (P ∧ EqT pl a a') V' (F a) (F' a') b b'):Ok4 pl m s e P V' (cu.bnd tokR F) (cu.bnd tokR F') b b':=by
 haveI:Nonempty Tk:=⟨Tk.zero⟩
 exact tokR_4.bnd k
theorem brkF_4 {R:Dt → Dt → Prop} {E E':LitR} (hG:Goes E) (hG':Goes E') (hF:Faults E b) (h:Ok4 pl m s e True (OD R) E E' b b') {r:ByteArray} (hr:dlt (pk r) = -1) (n:Nat):∀ (g g':Nat) (l l':List Dt) (c c':Cu),c.Ok → c'.Ok → Sf pl m s e c c' → c.ts.length ≤ b + c.ix → c'.ts.length ≤ b' + c'.ix → c.ts.length ≤ g + c.ix → c'.ts.length ≤ g' + c'.ix → EqLs R l l' → (e = 0 ∨ (Inv c ∧ c.kd = 0 ∧ 1 ≤ c.op ∧ (brkF E r n g l c).2.kd = 0)) → ((brkF E r n g l c).2.ix ≤ m ∨ ((brkF E r n g l c).1.isSome = true ∧ (brkF E r n g l c).2.ix ≤ m + 1)) → OL R (brkF E r n g l c).1 (brkF E' r n g' l' c').1 ∧ Sf pl m s e (brkF E r n g l c).2 (brkF E' r n g' l' c').2
 | 0,g',l,l',c,c',hc,hc',hs,hb,hb',hg,hg',hl,hP,hm => by have:=hc.lt;omega
 | g + 1,0,l,l',c,c',hc,hc',hs,hb,hb',hg,hg',hl,hP,hm => by have:=hc'.lt;omega
 | g + 1,g' + 1,l,l',c,c',hc,hc',hs,hb,hb',hg,hg',hl,hP,hm => by
  have hi:c.ix ≤ m:=by
   rcases hm with hm | ⟨h1,h2⟩
   ·exact Nat.le_trans (brkF_stp hG r n (g + 1) l c hc).ix hm
   ·have:=brkF_go E r n hG (g + 1) l c hc h1
    omega
  simp only [brkF] at hP hm ⊢
  rw [hs.isP hi,← hl.1]
  by_cases hq:l.length < n ∨ c.isP r = false
  ·rw [if_pos hq] at hP hm
   rw [if_pos hq,if_pos hq]
   have hgo:=hG c hc
   have hgo':=hG' c' hc'
   cases he:(E c).1 with
   | none =>
    rw [he] at hP hm
    have hm1:(E c).2.ix ≤ m:=by
     rcases hm with hm | ⟨h1,h2⟩
     ·exact hm
     ·cases h1
    have hp1:Ps e c E:=by
     rcases hP with hP | ⟨h1,h2,h3,h4⟩
     ·exact .inl hP
     ·exact .inr ⟨h1,h2,h4⟩
    obtain ⟨e1,e2⟩:=h.near trivial c c' hc hc' hs hb hb' hp1 hm1
    rw [he] at e1
    rw [e1.none]
    exact ⟨trivial,e2⟩
   | some d =>
    rw [he] at hP hm
    dsimp only at hP hm
    have hm1:(E c).2.ix ≤ m:=by
     rcases hm with hm | ⟨h1,h2⟩
     ·exact Nat.le_trans (brkF_stp hG r n g _ _ hgo.1.ok).ix hm
     ·have:=brkF_go E r n hG g _ _ hgo.1.ok h1
      omega
    have hk0:e = 0 ∨ (E c).2.kd = 0:=by
     rcases hP with hP | ⟨h1,h2,h3,h4⟩
     ·exact .inl hP
     ·refine .inr (Classical.byContradiction fun x => ?_)
      rw [brkF_sti h.o.sti r n x] at h4
      exact x h4
    have hp1:Ps e c E:=by
     rcases hP with hP | ⟨h1,h2,h3,h4⟩
     ·exact .inl hP
     ·rcases hk0 with hk0 | hk0
      ·exact .inl hk0
      ·exact .inr ⟨h1,h2,hk0⟩
    obtain ⟨e1,e2⟩:=h.near trivial c c' hc hc' hs hb hb' hp1 hm1
    rw [he] at e1
    obtain ⟨d',he',hR⟩:=e1.some
    rw [he']
    have i1:=hgo.2 (by rw [he];rfl)
    have i2:=hgo'.2 (by rw [he'];rfl)
    refine brkF_4 hG hG' hF h hr n g g' (l ++ [d]) (l' ++ [d']) _ _ hgo.1.ok hgo'.1.ok e2 (by rw [hgo.1.ts];omega) (by rw [hgo'.1.ts];omega) (by rw [hgo.1.ts];omega) (by rw [hgo'.1.ts];omega) (hl.snoc hR) ?_ hm
    rcases hP with hP | ⟨h1,h2,h3,h4⟩
    ·exact .inl hP
    ·rcases hk0 with hk0 | hk0
     ·exact .inl hk0
     ·obtain ⟨o1,i3⟩:=h.o.bal c hc hb h1 h2 hk0
      exact .inr ⟨i3,hk0,by omega,h4⟩
  ·rw [if_neg hq] at hP
   rw [if_neg hq,if_neg hq]
   refine ⟨hl,hs.cls hi r ?_⟩
   rcases hP with hP | ⟨h1,h2,h3,h4⟩
   ·exact .inl hP
   ·exact .inr h3
theorem brk_45 {R:Dt → Dt → Prop} {E E':LitR} (hG:Goes E) (hG':Goes E') (hF:Faults E b) (h:Ok4 pl m s e True (OD R) E E' b b') {l r:ByteArray} (hl:dlt (pk l) = 1) (hr:dlt (pk r) = -1) (n:Nat) (c c':Cu) (hc:c.Ok) (hc':c'.Ok) (hs:Sf pl m s e c c') (hb:c.ts.length ≤ b + 1 + c.ix) (hb':c'.ts.length ≤ b' + 1 + c'.ix) (hP:Ps e c (brk E l r n)) (hm:(brk E l r n c).2.ix ≤ m ∨ ((brk E l r n c).1.isSome = true ∧ (brk E l r n c).2.ix ≤ m + 1)):OL R (brk E l r n c).1 (brk E' l r n c').1 ∧ Sf pl m s e (brk E l r n c).2 (brk E' l r n c').2:=by
 have hgo:=brk_goes hG l r n c hc
 have hi:c.ix ≤ m:=by
  rcases hm with hm | ⟨h1,h2⟩
  ·exact Nat.le_trans hgo.1.ix hm
  ·have:=hgo.2 h1
   omega
 have ho:=opn_stp hc l
 have ho':=opn_stp hc' l
 have eB:=hs.opB hi l
 have eS:=hs.opn hi l
 unfold Ps at hP
 unfold brk at hP hm ⊢
 rw [eB]
 by_cases hB:c.opB l = true
 ·rw [if_pos hB] at hP hm
  rw [if_pos hB,if_pos hB]
  have x1:=opn_ix hB
  have x2:=opn_ix (show c'.opB l = true by rw [eB];exact hB)
  refine brkF_4 hG hG' hF h hr n _ _ [] [] _ _ ho.ok ho'.ok eS (by rw [ho.ts,x1];omega) (by rw [ho'.ts,x2];omega) (by rw [ho.ts];omega) (by rw [ho'.ts];omega) EqLs.nil ?_ hm
  rcases hP with hP | ⟨h1,h2,h3⟩
  ·exact .inl hP
  ·obtain ⟨q1,q2,q3⟩:=opn_yes hB
   exact .inr ⟨opn_inv hl hB h1,by rw [q3];exact h2,by rw [q3];exact Nat.succ_le_succ (Nat.zero_le _),h3⟩
 ·rw [if_neg hB,if_neg hB]
  exact ⟨trivial,eS⟩
theorem brk_4 {R:Dt → Dt → Prop} {E E':LitR} (hG:Goes E) (hG':Goes E') (hF:Faults E b) (h:Ok4 pl m s e True (OD R) E E' b b') {l r:ByteArray} (hl:dlt (pk l) = 1) (hr:dlt (pk r) = -1) (n:Nat):Ok4 pl m s e P (OL R) (brk E l r n) (brk E' l r n) (b + 1) (b' + 1):=
 ⟨brk_3 hG hF h.o hl hr n,(brk_goes hG' l r n).st,fun hp c c' hc hc' hs hb hb' hP hm => brk_45 hG hG' hF h hl hr n c c' hc hc' hs hb hb' hP (.inl hm)⟩
theorem leaf_eq (f:Nat) {k:Int} {tx:ByteArray} {bl:Bool} {a c a' c':Int} (h:pl = true → a = a' ∧ c = c'):EqL pl (f + 1) (litD k tx bl .nil .nil a c) (litD k tx bl .nil .nil a' c'):=
 ⟨k,tx,bl,[],[],[],[],a,c,a',c',rfl,rfl,h,rfl,rfl,fun i x y hx => by simp at hx,fun i x y hx => by simp at hx⟩
theorem word_eq (f:Nat) {t t':Tk} (h:EqT pl t t'):EqL pl (f + 1) (wordD t) (wordD t'):=by
 unfold wordD
 rw [h.2.1]
 split
 ·exact leaf_eq f h.2.2.2
 ·split
  ·exact leaf_eq f h.2.2.2
  ·exact leaf_eq f h.2.2.2
theorem argS_4 {f:Nat} {L L':LitR} (h:Ok4 pl m s e True (OD (EqL pl f)) L L' b b'):Ok4 pl m s e P (OD (EqA pl f)) (argS L) (argS L') b b':=by
 rw [argS_eq3,argS_eq3]
 exact Ok4.tb fun t t' => nR_4.bnd fun _ _ => (wantR_4 _ dl_col).bnd fun _ _ => h.wk.bnd fun r r' => ret_4 fun hp => hp.2.map fun x y hxy => by
  have ht:=hp.1.1.1.2
  rw [ht.2.1]
  exact ⟨t.tx,x,y,_,_,_,_,rfl,rfl,ht.2.2.2,hxy⟩
theorem litS_4 {f:Nat} {L L':LitR} (hG:Goes L) (hG':Goes L') (hF:Faults L b) (h:Ok4 pl m s e True (OD (EqL pl f)) L L' b b') (ct:Bool):Ok4 pl m s e P (OD (EqL pl (f + 1))) (litS L ct) (litS L' ct) (b + 1) (b' + 1):=by
 rw [litS_eq,litS_eq]
 refine aliveR_4.bnd fun al al' => cond_4 (fun hp => hp.2) (Ok4.tb fun t t' => ?_) (ret_4 fun _ => trivial)
 have hK:∀ {P':Prop} (k:Int) {v v':Dt},k ≠ 0 → k ≠ 1 → k ≠ 2 → (P' → EqL pl (f + 1) v v') → Ok4 pl m s e P' (OD (EqL pl (f + 1))) (bnd (takeK k) fun _ => ret (some v)) (bnd (takeK k) fun _ => ret (some v')) (b + 1) (b' + 1):=fun {P'} k {v v'} h0 h1 h2 hv => (takeK_4 k h0 h1 h2).bnd fun _ _ => ret_4 fun hp => hv hp.1
 have hk:∀ {Q:Prop} (k:Int),((Q ∧ EqT pl t t') → decide (t.k = k) = decide (t'.k = k)):=fun k hp => by rw [hp.2.1]
 unfold litT
 refine cond_4 (hk 4) (hK 4 (by decide) (by decide) (by decide) fun hp => ?_) (cond_4 (hk 5) (hK 5 (by decide) (by decide) (by decide) fun hp => ?_) (cond_4 (hk 6) (hK 6 (by decide) (by decide) (by decide) fun hp => ?_) (cond_4 (hk 7) (hK 7 (by decide) (by decide) (by decide) fun hp => ?_) (cond_4 (hk 3) (hK 3 (by decide) (by decide) (by decide) fun hp => word_eq f hp.2)
  ((isPR_4 _).bnd fun q q' => cond_4 (fun hp => by rw [hp.2]) ((punctR_4 _ dl_dol).bnd fun _ _ => nR_4.bnd fun n n' => ret_4 fun hp => ?_)
  ((isPR_4 _).bnd fun q q' => cond_4 (fun hp => hp.2) ((brk_4 hG hG' hF h dl_lb dl_rb 0).bnd fun r r' => ret_4 fun hp => hp.2.map fun x y hxy => ?_)
  ((isPR_4 _).bnd fun q q' => cond_4 (fun hp => hp.2) ((brk_4 (argS_goes hG) (argS_goes hG') (argS_faults b hF) (argS_4 h) dl_lc dl_rc 0).bnd fun r r' => ret_4 fun hp => hp.2.map fun x y hxy => ?_)
  (stopR_4 fun _ => trivial))))))))
 ·rw [hp.2.2.1];exact leaf_eq f hp.2.2.2.2
 ·rw [hp.2.2.1];exact leaf_eq f hp.2.2.2.2
 ·rw [hp.2.2.2.1];exact leaf_eq f hp.2.2.2.2
 ·rw [hp.2.2.2.1];exact leaf_eq f hp.2.2.2.2
 ·obtain ⟨⟨⟨⟨_,ht⟩,_⟩,_⟩,rfl⟩:=hp
  cases n.1
  ·trivial
  ·exact leaf_eq f ht.2.2.2
 ·have ht:=hp.1.1.1.2
  exact ⟨8,em,false,x,y,[],[],_,_,_,_,rfl,rfl,ht.2.2.2,hxy.1,rfl,hxy.2,fun i x y hx => by simp at hx⟩
 ·have ht:=hp.1.1.1.1.2
  exact ⟨9,em,false,[],[],x,y,_,_,_,_,rfl,rfl,ht.2.2.2,rfl,hxy.1,(fun i x y hx => by simp at hx),hxy.2⟩
theorem litF_4 (ct:Bool):∀ (f f':Nat),Ok4 pl m s e True (OD (EqL pl f)) (litF ct f) (litF ct f') f f'
 | 0,f' => ⟨litF_3 ct 0,(litF_goes ct f').st,fun hp c c' hc hc' hs hb => by have:=hc.lt;omega⟩
 | f + 1,0 => ⟨litF_3 ct (f + 1),(litF_goes ct 0).st,fun hp c c' hc hc' hs hb hb' => by have:=hc'.lt;omega⟩
 | f + 1,f' + 1 => litS_4 (litF_goes ct f) (litF_goes ct f') (litF_faults ct f) (litF_4 ct f f') ct
end
section
variable {pl:Bool} {m s e:Nat} {P:Prop} {b b':Nat} {f:Nat} {L L':LitR}
theorem argsS_4 (hG:Goes L) (hG':Goes L') (hF:Faults L b) (h:Ok4 pl m s e True (OD (EqL pl f)) L L' b b'):Ok4 pl m s e P (OL (EqA pl f)) (argsS L) (argsS L') b b':=by
 rw [argsS_eq,argsS_eq]
 exact (isPR_4 _).bnd fun q q' => cond_4 (fun hp => hp.2) ((brk_4 (argS_goes hG) (argS_goes hG') (argS_faults b hF) (argS_4 h) dl_lp dl_rp 1).mono (Nat.le_succ _) (Nat.le_succ _)) (aliveR_4.bnd fun a a' => ret_4 fun hp => by
  obtain ⟨_,rfl⟩:=hp
  cases a
  ·trivial
  ·exact EqLs.nil)
theorem dirB_4 (hG:Goes L) (hG':Goes L') (hF:Faults L b) (h:Ok4 pl m s e True (OD (EqL pl f)) L L' b b'):Ok4 pl m s e P (OD (EqR pl f)) (dirB L) (dirB L') b b':=
 Ok4.tb fun t t' => (punctR_4 _ dl_at).bnd fun _ _ => nR_4.bnd fun n n' => (argsS_4 hG hG' hF h).bnd fun r r' => ret_4 fun hp => hp.2.map fun x y hxy => by
  obtain ⟨⟨⟨⟨_,ht⟩,_⟩,rfl⟩,_⟩:=hp
  exact ⟨n.2,x,y,_,_,_,_,rfl,rfl,ht.2.2.2,hxy⟩
theorem dirsF_4 (hG:Goes L) (hG':Goes L') (hF:Faults L b) (o:Ok4 pl m s e True (OD (EqR pl f)) (dirB L) (dirB L') b b'):∀ (g g':Nat) (l l':List Dt) (c c':Cu),c.Ok → c'.Ok → Sf pl m s e c c' → c.ts.length ≤ b + c.ix → c'.ts.length ≤ b' + c'.ix → c.ts.length ≤ g + c.ix → c'.ts.length ≤ g' + c'.ix → EqLs (EqR pl f) l l' → Ps e c (dirsF L g l) → (dirsF L g l c).2.ix ≤ m → OL (EqR pl f) (dirsF L g l c).1 (dirsF L' g' l' c').1 ∧ Sf pl m s e (dirsF L g l c).2 (dirsF L' g' l' c').2
 | 0,g',l,l',c,c',hc,hc',hs,hb,hb',hg,hg',hl,hP,hm => by have:=hc.lt;omega
 | g + 1,0,l,l',c,c',hc,hc',hs,hb,hb',hg,hg',hl,hP,hm => by have:=hc'.lt;omega
 | g + 1,g' + 1,l,l',c,c',hc,hc',hs,hb,hb',hg,hg',hl,hP,hm => by
  have hi:c.ix ≤ m:=Nat.le_trans (dirsF_stp hG (g + 1) l c hc).ix hm
  unfold Ps at hP
  simp only [dirsF] at hP hm ⊢
  rw [hs.isP hi]
  by_cases hp:c.isP bAt = true
  ·rw [if_pos hp] at hP hm
   rw [if_pos hp,if_pos hp]
   have hp':c'.isP bAt = true:=by rw [hs.isP hi];exact hp
   have hgo:=dirS_stp hG hc hp
   have hgo':=dirS_stp hG' hc' hp'
   have eq1:dirB L c = dirS L c:=(dirS_eq L c hp).symm
   have eq2:dirB L' c' = dirS L' c':=(dirS_eq L' c' hp').symm
   have hnear:=o.near trivial c c' hc hc' hs hb hb'
   have hbal:=o.o.bal c hc hb
   unfold Ps at hnear
   rw [eq1,eq2] at hnear
   rw [eq1] at hbal
   cases he:(dirS L c).1 with
   | none =>
    rw [he] at hP hm
    obtain ⟨e1,e2⟩:=hnear hP hm
    rw [he] at e1
    rw [e1.none]
    exact ⟨trivial,e2⟩
   | some d =>
    rw [he] at hP hm
    dsimp only at hP hm
    have hm1:(dirS L c).2.ix ≤ m:=Nat.le_trans (dirsF_stp hG g _ _ hgo.1.ok).ix hm
    have hk0:e = 0 ∨ (dirS L c).2.kd = 0:=by
     rcases hP with hP | ⟨h1,h2,h4⟩
     ·exact .inl hP
     ·refine .inr (Classical.byContradiction fun x => ?_)
      rw [dirsF_still L x] at h4
      exact x h4
    have hp1:e = 0 ∨ (Inv c ∧ c.kd = 0 ∧ (dirS L c).2.kd = 0):=by
     rcases hP with hP | ⟨h1,h2,h4⟩
     ·exact .inl hP
     ·rcases hk0 with hk0 | hk0
      ·exact .inl hk0
      ·exact .inr ⟨h1,h2,hk0⟩
    obtain ⟨e1,e2⟩:=hnear hp1 hm1
    rw [he] at e1
    obtain ⟨d',he',hR⟩:=e1.some
    rw [he']
    have i1:=hgo.2
    have i2:=hgo'.2
    refine dirsF_4 hG hG' hF o g g' (l ++ [d]) (l' ++ [d']) _ _ hgo.1.ok hgo'.1.ok e2 (by rw [hgo.1.ts];omega) (by rw [hgo'.1.ts];omega) (by rw [hgo.1.ts];omega) (by rw [hgo'.1.ts];omega) (hl.snoc hR) ?_ hm
    rcases hP with hP | ⟨h1,h2,h4⟩
    ·exact .inl hP
    ·rcases hk0 with hk0 | hk0
     ·exact .inl hk0
     ·exact .inr ⟨(hbal h1 h2 hk0).2,hk0,h4⟩
  ·rw [if_neg hp,if_neg hp]
   refine ⟨?_,hs⟩
   show OL _ (if c.kd = 0 then some l else none) (if c'.kd = 0 then some l' else none)
   rw [hs.kd]
   split
   ·exact hl
   ·trivial
theorem dirs_4 (hG:Goes L) (hG':Goes L') (hF:Faults L b) (h:Ok4 pl m s e True (OD (EqL pl f)) L L' b b'):Ok4 pl m s e P (OL (EqR pl f)) (dirs L) (dirs L') b b':=
 ⟨dirs_3 hG hF h.o,dirs_st hG',fun hp c c' hc hc' hs hb hb' hP hm => dirsF_4 hG hG' hF (dirB_4 hG hG' hF h) _ _ [] [] c c' hc hc' hs hb hb' (by omega) (by omega) EqLs.nil hP hm⟩
theorem unmO_4 {T T':TypR} (hF:Faults T b) (h:Ok4 pl m s e True Eq T T' b b'):Ok4 pl m s e P Eq (bnd (opnR bLb) fun o => cond o (unmI T) (ret none)) (bnd (opnR bLb) fun o => cond o (unmI T') (ret none)) (b + 1) (b' + 1):=by
 refine ⟨unmO_3 hF h.o,(opnR_st bLb).bnd fun o => ite_st (unmI_st h.st') (ret_st _),fun hp c c' hc hc' hs hb hb' hP hm => ?_⟩
 have eq:∀ (T:TypR) (c:Cu),(bnd (opnR bLb) fun o => cond o (unmI T) (ret none)) c = cond (c.opB bLb) (unmI T) (ret none) (c.opn bLb):=fun T c => rfl
 have ho:=opn_stp hc bLb
 have ho':=opn_stp hc' bLb
 have hst:=(unmO_3 (M:=0) hF h.o).st c hc
 have hi:c.ix ≤ m:=Nat.le_trans hst.ix hm
 unfold Ps at hP
 rw [eq] at hP hm
 rw [eq,eq,hs.opB hi]
 have eS:=hs.opn hi bLb
 by_cases hB:c.opB bLb = true
 ·rw [hB] at hP hm ⊢
  simp only [cond_true] at hP hm ⊢
  rw [unmI_at] at hP hm
  rw [unmI_at,unmI_at]
  have x1:=opn_ix hB
  have x2:=opn_ix (show c'.opB bLb = true by rw [hs.opB hi];exact hB)
  have hb1:(c.opn bLb).ts.length ≤ b + (c.opn bLb).ix:=by rw [ho.ts,x1];omega
  have hb2:(c'.opn bLb).ts.length ≤ b' + (c'.opn bLb).ix:=by rw [ho'.ts,x2];omega
  obtain ⟨q1,q2,q3⟩:=opn_yes hB
  have sT:=h.o.st _ ho.ok
  cases hq:(T (c.opn bLb)).1 with
  | none =>
   rw [hq] at hP hm
   have hP1:Ps e (c.opn bLb) T:=by
    rcases hP with hP | ⟨h1,h2,h3⟩
    ·exact .inl hP
    ·exact absurd h3 (hF _ ho.ok hb1 hq)
   obtain ⟨e1,e2⟩:=h.near trivial _ _ ho.ok ho'.ok eS hb1 hb2 hP1 hm
   rw [← e1,hq]
   exact ⟨rfl,e2⟩
  | some it =>
   rw [hq] at hP hm
   dsimp only at hP hm
   have hm1:(T (c.opn bLb)).2.ix ≤ m:=Nat.le_trans (cls_stp sT.ok bRb).ix hm
   have hk0:e = 0 ∨ (T (c.opn bLb)).2.kd = 0:=by
    rcases hP with hP | ⟨h1,h2,h3⟩
    ·exact .inl hP
    ·refine .inr (Classical.byContradiction fun x => ?_)
     have:(T (c.opn bLb)).2.cls bRb = (T (c.opn bLb)).2:=by unfold Cu.cls;rw [isP_dead x];exact stop_dead _ _ x
     rw [this] at h3
     exact x h3
   have hP1:Ps e (c.opn bLb) T:=by
    rcases hP with hP | ⟨h1,h2,h3⟩
    ·exact .inl hP
    ·rcases hk0 with hk0 | hk0
     ·exact .inl hk0
     ·exact .inr ⟨opn_inv dl_lb hB h1,by rw [q3];exact h2,hk0⟩
   obtain ⟨e1,e2⟩:=h.near trivial _ _ ho.ok ho'.ok eS hb1 hb2 hP1 hm1
   rw [← e1,hq]
   dsimp only
   rw [e2.isP hm1]
   refine ⟨rfl,e2.cls hm1 bRb ?_⟩
   rcases hP1 with hP1 | ⟨h1,h2,h3⟩
   ·exact .inl hP1
   ·obtain ⟨o1,i1⟩:=h.o.bal _ ho.ok hb1 h1 h2 h3
    right
    rw [o1,q3]
    exact Nat.succ_le_succ (Nat.zero_le _)
 ·have hB':c.opB bLb = false:=by simpa using hB
  rw [hB']
  exact ⟨rfl,eS⟩
theorem unm_4 {T T':TypR} (hF:Faults T b) (h:Ok4 pl m s e True Eq T T' b b'):Ok4 pl m s e P Eq (unm T) (unm T') (b + 1) (b' + 1):=by
 rw [unm_eq,unm_eq]
 exact (isPR_4 _).bnd fun q q' => cond_4 (fun hp => hp.2) (unmO_4 hF h) (nR_4.bnd fun n n' => ret_4 fun hp => by rw [hp.2])
theorem typF_4:∀ (f f':Nat),Ok4 pl m s e True Eq (typF f) (typF f') f f'
 | 0,f' => ⟨typF_3 0,typF_st f',fun hp c c' hc hc' hs hb => by have:=hc.lt;omega⟩
 | f + 1,0 => ⟨typF_3 (f + 1),typF_st 0,fun hp c c' hc hc' hs hb hb' => by have:=hc'.lt;omega⟩
 | f + 1,f' + 1 => by
  show Ok4 pl m s e True Eq (typ (unm (typF f))) (typ (unm (typF f'))) (f + 1) (f' + 1)
  rw [typ_eq,typ_eq]
  refine (unm_4 (typF_faults f) (typF_4 f f')).bnd fun r r' => ?_
  have h1:∀ (P':Prop) (r:ByteArray × ByteArray),Ok4 pl m s e P' Eq (bnd (punctR bBang) fun q => ret (some (cond q (r.1,r.2 ++ bBang) r))) (bnd (punctR bBang) fun q => ret (some (cond q (r.1,r.2 ++ bBang) r))) (f + 1) (f' + 1):=fun P' r => (punctR_4 _ dl_bang).bnd fun q q' => ret_4 fun hp => by rw [hp.2]
  cases r with
  | none =>
   cases r' with
   | none => exact ret_4 fun _ => rfl
   | some r' => exact ⟨ret_3 _,(h1 True r').st',fun hp => by cases hp.2⟩
  | some r =>
   cases r' with
   | none => exact ⟨(h1 True r).o,ret_st _,fun hp => by cases hp.2⟩
   | some r' =>
    refine ⟨(h1 True r).o,(h1 True r').st',fun hp => ?_⟩
    obtain rfl:=Option.some.inj hp.2
    exact (h1 True r).near trivial
end
open lx (toks chs cln tksG tkG)
section
variable {pl:Bool} {m s e:Nat} {P:Prop} {b b':Nat} {f:Nat} {L L' K K':LitR}
theorem OD.getD {R:Dt → Dt → Prop} {a b:Option Dt} {z z':Dt} (h:OD R a b) (hz:R z z'):R (a.getD z) (b.getD z'):=by
 cases a <;> cases b
 ·exact hz
 ·exact h.elim
 ·exact h.elim
 ·exact h
theorem defsF_4 {R:Dt → Dt → Prop} {D D':LitR} (hG:Goes D) (hG':Goes D') (h:Ok4 pl m s 0 True (OD R) D D' b b') (q:List Dt):∀ (g g':Nat) (l l':List Dt) (c c':Cu),c.Ok → c'.Ok → Sf pl m s 0 c c' → c.ts.length ≤ b + c.ix → c'.ts.length ≤ b' + c'.ix → c.ts.length ≤ g + c.ix → c'.ts.length ≤ g' + c'.ix → EqLs R l l' → (q = [] ∨ l ≠ [] ∨ c.tok.k ≠ 0) → (defsF D g l c).2.ix ≤ m → ((∃ r r',(defsF D g l c).1 = some r ∧ (defsF D' g' (q ++ l') c').1 = some (q ++ r') ∧ EqLs R r r') ∨ ((defsF D g l c).1 = none ∧ (defsF D' g' (q ++ l') c').1 = none)) ∧ Sf pl m s 0 (defsF D g l c).2 (defsF D' g' (q ++ l') c').2
 | 0,g',l,l',c,c',hc,hc',hs,hb,hb',hg,hg',hl,hq,hm => by have:=hc.lt;omega
 | g + 1,0,l,l',c,c',hc,hc',hs,hb,hb',hg,hg',hl,hq,hm => by have:=hc'.lt;omega
 | g + 1,g' + 1,l,l',c,c',hc,hc',hs,hb,hb',hg,hg',hl,hq,hm => by
  have hi:c.ix ≤ m:=Nat.le_trans (defsF_stp hG (g + 1) l c hc).ix hm
  simp only [defsF] at hm ⊢
  have ht:=hs.tok hi
  have hcond:(l.length = 0 ∨ c.tok.k ≠ 0) ↔ ((q ++ l').length = 0 ∨ c'.tok.k ≠ 0):=by
   rw [ht.1,List.length_append,← hl.1]
   constructor
   ·rintro (x | x)
    ·rcases hq with hq | hq | hq
     ·left;rw [hq,x];rfl
     ·exact absurd (List.length_eq_zero_iff.1 x) hq
     ·exact .inr hq
    ·exact .inr x
   ·rintro (x | x)
    ·left;omega
    ·exact .inr x
  by_cases hx:l.length = 0 ∨ c.tok.k ≠ 0
  ·rw [if_pos hx] at hm
   rw [if_pos hx,if_pos (hcond.1 hx)]
   have hgo:=hG c hc
   have hgo':=hG' c' hc'
   have hm1:(D c).2.ix ≤ m:=by
    cases he:(D c).1 with
    | none => rw [he] at hm;exact hm
    | some d => rw [he] at hm;exact Nat.le_trans (defsF_stp hG g _ _ hgo.1.ok).ix hm
   obtain ⟨e1,e2⟩:=h.near trivial c c' hc hc' hs hb hb' (.inl rfl) hm1
   cases he:(D c).1 with
   | none =>
    rw [he] at e1
    rw [e1.none]
    exact ⟨.inr ⟨rfl,rfl⟩,e2⟩
   | some d =>
    rw [he] at e1 hm
    obtain ⟨d',he',hR⟩:=e1.some
    rw [he']
    have i1:=hgo.2 (by rw [he];rfl)
    have i2:=hgo'.2 (by rw [he'];rfl)
    have ih:=defsF_4 hG hG' h q g g' (l ++ [d]) (l' ++ [d']) _ _ hgo.1.ok hgo'.1.ok e2 (by rw [hgo.1.ts];omega) (by rw [hgo'.1.ts];omega) (by rw [hgo.1.ts];omega) (by rw [hgo'.1.ts];omega) (hl.snoc hR) (.inr (.inl (by simp))) hm
    dsimp only
    rw [List.append_assoc]
    exact ih
  ·rw [if_neg hx,if_neg (fun y => hx (hcond.2 y))]
   refine ⟨?_,hs.fin hi⟩
   dsimp only
   rw [hs.finB hi]
   cases c.finB
   ·exact .inr ⟨rfl,rfl⟩
   ·exact .inl ⟨l,l',rfl,rfl,hl⟩
end
def EqNm (pl:Bool) (x y:Nm):Prop:=x.1 = y.1 ∧ (pl = true → x.2.1 = y.2.1 ∧ x.2.2 = y.2.2)
def EqN (pl:Bool) (x y:Dt):Prop:=∃ a b:Nm,x = namD a ∧ y = namD b ∧ EqNm pl a b
def EqI (pl:Bool) (f:Nat) (x y:Dt):Prop:=∃ n m m' tn tw hd v v' ds ds',x = inpD n m tn tw hd v ds ∧ y = inpD n m' tn tw hd v' ds' ∧ EqNm pl m m' ∧ EqL pl f v v' ∧ EqLs (EqR pl f) ds ds'
def EqFd (pl:Bool) (f:Nat) (x y:Dt):Prop:=∃ n m m' al al' tn tw ds ds',x = fdD n m al tn tw ds ∧ y = fdD n m' al' tn tw ds' ∧ EqNm pl m m' ∧ EqLs (EqI pl f) al al' ∧ EqLs (EqR pl f) ds ds'
def EqC (pl:Bool) (f:Nat) (x y:Dt):Prop:=∃ n m m' ds ds',x = choD n m ds ∧ y = choD n m' ds' ∧ EqNm pl m m' ∧ EqLs (EqR pl f) ds ds'
def EqRt (pl:Bool) (x y:Dt):Prop:=∃ k ty a b a' b',x = rooD k ty a b ∧ y = rooD k ty a' b' ∧ (pl = true → a = a' ∧ b = b')
structure EqY (pl:Bool) (f:Nat) (s s':Sy):Prop where
 k:s.k = s'.k
 ex:s.ex = s'.ex
 n:s.n = s'.n
 nm:s.nm = s'.nm
 ifs:EqLs (EqN pl) s.ifs s'.ifs
 ds:EqLs (EqR pl f) s.ds s'.ds
 fs:EqLs (EqFd pl f) s.fs s'.fs
 ins:EqLs (EqI pl f) s.ins s'.ins
 ms:EqLs (EqN pl) s.ms s'.ms
 vs:EqLs (EqC pl f) s.vs s'.vs
 rs:EqLs (EqRt pl) s.rs s'.rs
 rp:s.rp = s'.rp
 ps:EqLs (EqN pl) s.ps s'.ps
 pos:pl = true → s.ln = s'.ln ∧ s.co = s'.co
def EqD (pl:Bool) (f:Nat) (x y:Dt):Prop:=∃ s s':Sy,x = s.d ∧ y = s'.d ∧ EqY pl f s s'
theorem nm3_eq {pl:Bool} {t t':Tk} (h:EqT pl t t') (so:Bool):EqNm pl (nm3 t so) (nm3 t' so):=by
 cases so
 ·exact ⟨rfl,fun _ => ⟨rfl,rfl⟩⟩
 ·exact ⟨h.2.1.symm,h.2.2.2⟩
theorem EqY.bare {pl:Bool} {f:Nat} {s s':Sy} (h:EqY pl f s s'):s.bare = s'.bare:=by
 unfold Sy.bare
 rw [h.ifs.1,h.ds.1,h.fs.1,h.ins.1,h.ms.1,h.vs.1,h.rs.1]
theorem EqY.at {pl:Bool} {f:Nat} {s s':Sy} {t t':Tk} (h:EqY pl f s s') (k:Int) (ht:EqT pl t t'):EqY pl f (s.at k t) (s'.at k t'):=
 ⟨rfl,h.ex,h.n,h.nm,h.ifs,h.ds,h.fs,h.ins,h.ms,h.vs,h.rs,h.rp,h.ps,ht.2.2.2⟩
theorem EqY.of (pl:Bool) (f:Nat) (n:Nt) (x:Bool):EqY pl f (Sy.of n x) (Sy.of n x):=
 ⟨rfl,rfl,rfl,rfl,EqLs.nil,EqLs.nil,EqLs.nil,EqLs.nil,EqLs.nil,EqLs.nil,EqLs.nil,rfl,EqLs.nil,fun _ => ⟨rfl,rfl⟩⟩
section
variable {pl:Bool} {m s e:Nat} {P:Prop} {b b':Nat}
theorem Ok4.imp {A X:Type} {P':Prop} {V:A → X → Prop} {E:Cu → A × Cu} {E':Cu → X × Cu} (h:Ok4 pl m s e P V E E' b b') (k:P' → P):Ok4 pl m s e P' V E E' b b':=⟨h.o,h.st',fun hp => h.near (k hp)⟩
theorem Ok4.yb {Y Z:Type} {V:Sy → Sy → Prop} {V':Y → Z → Prop} {E E':Cu → Sy × Cu} {F:Sy → Cu → Y × Cu} {F':Sy → Cu → Z × Cu} (h:Ok4 pl m s e P V E E' b b') (k:∀ a a',Ok4 pl m s e (P ∧ V a a') V' (F a) (F' a') b b'):Ok4 pl m s e P V' (cu.bnd E F) (cu.bnd E' F') b b':=by
 haveI:Nonempty Sy:=⟨Sy.of (false,false,em) false⟩
 exact h.bnd k
theorem Ok4.db {Y Z:Type} {V:Dt → Dt → Prop} {V':Y → Z → Prop} {E E':Cu → Dt × Cu} {F:Dt → Cu → Y × Cu} {F':Dt → Cu → Z × Cu} (h:Ok4 pl m s e P V E E' b b') (k:∀ a a',Ok4 pl m s e (P ∧ V a a') V' (F a) (F' a') b b'):Ok4 pl m s e P V' (cu.bnd E F) (cu.bnd E' F') b b':=by
 haveI:Nonempty Dt:=⟨Dt.nil⟩
 exact h.bnd k
theorem Sf.isS {c c':Cu} (h:Sf pl m s e c c') (hi:c.ix ≤ m):c'.isS = c.isS:=by
 have t:=h.tok hi
 unfold Cu.isS
 rw [h.kd,t.1]
theorem namR_4:Ok4 pl m s e P (EqNm pl) namR namR b b':=⟨namR_3,namR_st,fun hp c c' hc hc' hs hb hb' hP hm => by
 have hi:c.ix ≤ m:=Nat.le_trans (name_stp hc).ix hm
 refine ⟨?_,hs.name hi⟩
 show EqNm pl (nm3 c.tok c.isN) (nm3 c'.tok c'.isN)
 rw [hs.isN hi]
 exact nm3_eq (hs.tok hi) _⟩
theorem butN_4 (ws:List ByteArray):Ok4 pl m s e P (EqNm pl) (butN ws) (butN ws) b b':=⟨butN_3 ws,butN_st ws,fun hp c c' hc hc' hs hb hb' hP hm => by
 have hi:c.ix ≤ m:=Nat.le_trans (butN_st ws c hc).ix hm
 refine ⟨?_,?_⟩
 ·show EqNm pl (nm3 c.tok _) (nm3 c'.tok _)
  rw [hs.isN hi,(hs.tok hi).2.1]
  exact nm3_eq (hs.tok hi) _
 ·show Sf pl m s e (c.nmC _) (c'.nmC _)
  rw [hs.isN hi,(hs.tok hi).2.1]
  exact hs.nmC _⟩
theorem wwN_4 (ws:List ByteArray):Ok4 pl m s e P (EqNm pl) (wwN ws) (wwN ws) b b':=⟨wwN_3 ws,wwN_st ws,fun hp c c' hc hc' hs hb hb' hP hm => by
 have hi:c.ix ≤ m:=Nat.le_trans (wwN_st ws c hc).ix hm
 refine ⟨?_,?_⟩
 ·show EqNm pl (nm3 c.tok _) (nm3 c'.tok _)
  rw [hs.isW hi]
  exact nm3_eq (hs.tok hi) _
 ·show Sf pl m s e (c.nmC _) (c'.nmC _)
  rw [hs.isW hi]
  exact hs.nmC _⟩
theorem noteR_4:Ok4 pl m s e P Eq noteR noteR b b':=⟨noteR_3,noteR_st,fun hp c c' hc hc' hs hb hb' hP hm => by
 have hi:c.ix ≤ m:=Nat.le_trans (noteR_st c hc).ix hm
 have t:=hs.tok hi
 unfold noteR
 rw [hs.isS hi,t.1,t.2.2.1]
 split
 ·exact ⟨rfl,hs.take⟩
 ·exact ⟨rfl,hs⟩⟩
theorem optR_4 {R:Dt → Dt → Prop} {E E':Cu → Dt × Cu} (h:Ok4 pl m s e P R E E' b b'):Ok4 pl m s e P (OD R) (optR E) (optR E') b b':=h.db fun d d' => aliveR_4.bnd fun a a' => ret_4 fun hp => by
 obtain ⟨⟨_,hR⟩,rfl⟩:=hp
 cases a
 ·trivial
 ·exact hR
theorem brkT_4 {R:Dt → Dt → Prop} {E E':Cu → Dt × Cu} (hG:Goes (optR E)) (hG':Goes (optR E')) (h:Ok4 pl m s e True R E E' b b') {l r:ByteArray} (hl:dlt (pk l) = 1) (hr:dlt (pk r) = -1):Ok4 pl m s e P (EqLs R) (brkT E l r) (brkT E' l r) b b':=
 ((brk_4 hG hG' (optR_faults b) (optR_4 h) hl hr 1).mono (Nat.le_succ _) (Nat.le_succ _)).bnd fun x x' => ret_4 fun hp => hp.2.getD
theorem optT_4 {R:Dt → Dt → Prop} {E E':Cu → Dt × Cu} (hG:Goes (optR E)) (hG':Goes (optR E')) (h:Ok4 pl m s e True R E E' b b') {l r:ByteArray} (hl:dlt (pk l) = 1) (hr:dlt (pk r) = -1):Ok4 pl m s e P (EqLs R) (optT E l r) (optT E' l r) b b':=
 (isPR_4 l).bnd fun q q' => cond_4 (fun hp => hp.2) (brkT_4 hG hG' h hl hr) (ret_4 fun _ => EqLs.nil)
theorem pun_4 {X Z:Type} {V:X → Z → Prop} {p:ByteArray} (hp:dlt (pk p) = 0) {F:Bool → Cu → X × Cu} {F':Bool → Cu → Z × Cu} (o:∀ q,Ok3 0 (F q) (b + 1)) (k:Ok4 pl m s e P V (F true) (F' true) b b') (k0:Ok4 pl m s e P V (F false) (F' false) (b + 1) (b' + 1)):Ok4 pl m s e P V (bnd (punctR p) F) (bnd (punctR p) F') (b + 1) (b' + 1):=by
 refine ⟨(punctR_3 p hp).bnd o,(punctR_st p).bnd fun q => by cases q;exact k0.st';exact k.st',fun hP' c c' hc hc' hs hb hb' hP hm => ?_⟩
 have s1:=punct_stp hc p
 have s2:=punct_stp hc' p
 have hm':(F (c.isP p) (c.punct p)).2.ix ≤ m:=hm
 have hi:c.ix ≤ m:=Nat.le_trans s1.ix (Nat.le_trans ((o (c.isP p)).st _ s1.ok).ix hm')
 have e1:=hs.isP hi p
 have eS:=hs.punct hi p
 have hP2:Ps e (c.punct p) (F (c.isP p)):=hP.two (punctR_3 (M:=0) (b:=b + 1) p hp) (fun a => (o a).sti) hc hb
 show V (F (c.isP p) (c.punct p)).1 (F' (c'.isP p) (c'.punct p)).1 ∧ Sf pl m s e (F (c.isP p) (c.punct p)).2 (F' (c'.isP p) (c'.punct p)).2
 rw [e1]
 cases hq:c.isP p
 ·rw [hq] at hm' hP2
  exact k0.near hP' _ _ s1.ok s2.ok eS (by rw [s1.ts];have:=s1.ix;omega) (by rw [s2.ts];have:=s2.ix;omega) hP2 hm'
 ·rw [hq] at hm' hP2 e1
  have x1:(c.punct p).ix = c.ix + 1:=by unfold Cu.punct;rw [if_pos hq];rfl
  have x2:(c'.punct p).ix = c'.ix + 1:=by unfold Cu.punct;rw [if_pos e1];rfl
  exact k.near hP' _ _ s1.ok s2.ok eS (by rw [s1.ts,x1];omega) (by rw [s2.ts,x2];omega) hP2 hm'
theorem parF_4 {k:ByteArray} (hk:dlt (pk k) = 0) {E E':Cu → Nm × Cu} (hE:∀ (P:Prop) (b b':Nat),Ok4 pl m s e P (EqNm pl) E E' b b'):∀ (g g':Nat) (P:Prop) (l l':List Dt),(P → EqLs (EqN pl) l l') → Ok4 pl m s e P (EqLs (EqN pl)) (parF E k g l) (parF E' k g' l') g g'
 | 0,g',P,l,l',hl => ⟨parF_3 hk (hE True 0 0).o 0 l,parF_st (hE True 0 0).st' k g' l',fun hp c c' hc hc' hs hb => by have:=hc.lt;omega⟩
 | g + 1,0,P,l,l',hl => ⟨parF_3 hk (hE True (g + 1) 0).o (g + 1) l,parF_st (hE True 0 0).st' k 0 l',fun hp c c' hc hc' hs hb hb' => by have:=hc'.lt;omega⟩
 | g + 1,g' + 1,P,l,l',hl => pun_4 hk (F:=fun q => cond q (cu.bnd E fun d => parF E k g (l ++ [namD d])) (ret l)) (F':=fun q => cond q (cu.bnd E' fun d => parF E' k g' (l' ++ [namD d])) (ret l'))
   (fun q => cond_3 ((hE True (g + 1) 0).o.bnd fun d => parF_3 hk (hE True (g + 1) 0).o g _) (ret_3 l))
   (show Ok4 pl m s e P (EqLs (EqN pl)) (cu.bnd E fun d => parF E k g (l ++ [namD d])) (cu.bnd E' fun d => parF E' k g' (l' ++ [namD d])) g g' from (hE P g g').bnd fun d d' => parF_4 hk hE g g' _ _ _ fun hp => (hl hp.1).snoc ⟨d,d',rfl,rfl,hp.2⟩)
   (ret_4 hl)
theorem parT_4 {k:ByteArray} (hk:dlt (pk k) = 0) {E E':Cu → Nm × Cu} (hE:∀ (P:Prop) (b b':Nat),Ok4 pl m s e P (EqNm pl) E E' b b') (N N':Nat):Ok4 pl m s e P (EqLs (EqN pl)) (parT N E k) (parT N' E' k) N N':=
 (punctR_4 k hk).bnd fun _ _ => (hE _ N N').bnd fun d d' => parF_4 hk hE N N' _ _ _ fun hp => EqLs.snoc (l:=[]) (l':=[]) EqLs.nil ⟨d,d',rfl,rfl,hp.2⟩
end
section
variable {pl:Bool} {m s e:Nat} {P:Prop} {N:Nat} (hN:0 < N) (N':Nat)
theorem dirsL_4:Ok4 pl m s e P (OL (EqR pl N)) (dirs (litF true N)) (dirs (litF true N')) N N':=dirs_4 (litF_goes true N) (litF_goes true N') (litF_faults true N) (litF_4 true N N')
include hN in
theorem zero_eq:EqL pl N zeroD zeroD:=by
 obtain ⟨f',rfl⟩:∃ f',N = f' + 1:=⟨N - 1,by omega⟩
 exact leaf_eq f' fun _ => ⟨rfl,rfl⟩
include hN in
theorem inp_4:Ok4 pl m s e P (EqI pl N) (inpT (typF N) (litF true N)) (inpT (typF N') (litF true N')) N N':=
 noteR_4.bnd fun n n' => namR_4.bnd fun x x' => (wantR_4 _ dl_col).bnd fun _ _ => (typF_4 N N').wk.bnd fun ty ty' => (punctR_4 _ dl_eq).bnd fun q q' => (cond_4 (V:=OD (EqL pl N)) (fun hp => hp.2) (litF_4 true N N').wk (ret_4 (a:=none) (x:=none) fun _ => trivial)).bnd fun v v' => (dirsL_4 N').bnd fun d d' => ret_4 fun hp => by
  obtain ⟨⟨⟨⟨⟨⟨⟨_,rfl⟩,hm⟩,_⟩,rfl⟩,rfl⟩,hv⟩,hd⟩:=hp
  exact ⟨n,x,x',_,_,q,_,_,_,_,rfl,rfl,hm,hv.getD (zero_eq hN),hd.getD⟩
include hN in
theorem fd_4:Ok4 pl m s e P (EqFd pl N) (fdT (typF N) (litF true N)) (fdT (typF N') (litF true N')) N N':=
 noteR_4.bnd fun n n' => namR_4.bnd fun x x' => (optT_4 (inp_go N) (inp_go N') (inp_4 hN N') dl_lp dl_rp).bnd fun al al' => (wantR_4 _ dl_col).bnd fun _ _ => (typF_4 N N').wk.bnd fun ty ty' => (dirsL_4 N').bnd fun d d' => ret_4 fun hp => by
  obtain ⟨⟨⟨⟨⟨⟨_,rfl⟩,hm⟩,ha⟩,_⟩,rfl⟩,hd⟩:=hp
  exact ⟨n,x,x',al,al',_,_,_,_,rfl,rfl,hm,ha,hd.getD⟩
theorem cho_4:Ok4 pl m s e P (EqC pl N) (choT (litF true N)) (choT (litF true N')) N N':=
 noteR_4.bnd fun n n' => (butN_4 _).bnd fun x x' => (dirsL_4 N').bnd fun d d' => ret_4 fun hp => by
  obtain ⟨⟨⟨_,rfl⟩,hm⟩,hd⟩:=hp
  exact ⟨n,x,x',_,_,rfl,rfl,hm,hd.getD⟩
theorem roo_4 {b b':Nat}:Ok4 pl m s e P (EqRt pl) rooT rooT b b':=
 (wwN_4 _).bnd fun x x' => (wantR_4 _ dl_col).bnd fun _ _ => namR_4.bnd fun y y' => ret_4 fun hp => by
  obtain ⟨⟨⟨_,hx⟩,_⟩,hy⟩:=hp
  refine ⟨opK x.1,y.1,_,_,_,_,rfl,?_,hx.2⟩
  rw [hx.1,hy.1]
theorem nmd_4 {b b':Nat} {y y':Sy} (h:P → EqY pl N y y'):Ok4 pl m s e P (EqY pl N) (nmdT y) (nmdT y') b b':=
 namR_4.bnd fun x x' => ret_4 fun hp => by
  have h:=h hp.1
  exact ⟨h.k,h.ex,h.n,hp.2.1,h.ifs,h.ds,h.fs,h.ins,h.ms,h.vs,h.rs,h.rp,h.ps,hp.2.2⟩
theorem sch_4 {y y':Sy} (h:P → EqY pl N y y'):Ok4 pl m s e P (EqY pl N) (schT (litF true N) y) (schT (litF true N') y') N N':=
 (dirsL_4 N').bnd fun d d' => (isPR_4 _).bnd fun q q' => (cond_4 (V:=EqLs (EqRt pl)) (fun hp => by rw [(h hp.1.1).ex,hp.2]) (brkT_4 roo_go roo_go roo_4 dl_lc dl_rc) (ret_4 fun _ => EqLs.nil)).bnd fun r r' => ret_4 fun hp => by
  have h:=h hp.1.1.1
  exact ⟨h.k,h.ex,h.n,h.nm,h.ifs,hp.1.1.2.getD,h.fs,h.ins,h.ms,h.vs,hp.2,h.rp,h.ps,h.pos⟩
theorem sca_4 {y y':Sy} (h:P → EqY pl N y y'):Ok4 pl m s e P (EqY pl N) (scaT (litF true N) y) (scaT (litF true N') y') N N':=
 (nmd_4 h).yb fun y y' => (dirsL_4 N').bnd fun d d' => ret_4 fun hp => by
  have h:=hp.1.2
  exact ⟨h.k,h.ex,h.n,h.nm,h.ifs,hp.2.getD,h.fs,h.ins,h.ms,h.vs,h.rs,h.rp,h.ps,h.pos⟩
include hN in
theorem obj_4 {y y':Sy} (h:P → EqY pl N y y'):Ok4 pl m s e P (EqY pl N) (objT (typF N) (litF true N) N y) (objT (typF N') (litF true N') N' y') N N':=
 (nmd_4 h).yb fun y y' => (wordR_4 _).bnd fun q q' => (cond_4 (V:=EqLs (EqN pl)) (fun hp => hp.2) (parT_4 dl_amp (fun _ _ _ => namR_4) N N') (ret_4 fun _ => EqLs.nil)).bnd fun i i' => (dirsL_4 N').bnd fun d d' => (optT_4 (fd_go N) (fd_go N') (fd_4 hN N') dl_lc dl_rc).bnd fun f f' => ret_4 fun hp => by
  have h:=hp.1.1.1.1.2
  exact ⟨h.k,h.ex,h.n,h.nm,hp.1.1.2,hp.1.2.getD,hp.2,h.ins,h.ms,h.vs,h.rs,h.rp,h.ps,h.pos⟩
theorem uni_4 {y y':Sy} (h:P → EqY pl N y y'):Ok4 pl m s e P (EqY pl N) (uniT (litF true N) N y) (uniT (litF true N') N' y') N N':=
 (nmd_4 h).yb fun y y' => (dirsL_4 N').bnd fun d d' => (punctR_4 _ dl_eq).bnd fun q q' => (cond_4 (V:=EqLs (EqN pl)) (fun hp => hp.2) (parT_4 dl_pipe (fun _ _ _ => namR_4) N N') (ret_4 fun _ => EqLs.nil)).bnd fun i i' => ret_4 fun hp => by
  have h:=hp.1.1.1.2
  exact ⟨h.k,h.ex,h.n,h.nm,h.ifs,hp.1.1.2.getD,h.fs,h.ins,hp.2,h.vs,h.rs,h.rp,h.ps,h.pos⟩
theorem enu_4 {y y':Sy} (h:P → EqY pl N y y'):Ok4 pl m s e P (EqY pl N) (enuT (litF true N) y) (enuT (litF true N') y') N N':=
 (nmd_4 h).yb fun y y' => (dirsL_4 N').bnd fun d d' => (optT_4 (cho_go N) (cho_go N') (cho_4 N') dl_lc dl_rc).bnd fun f f' => ret_4 fun hp => by
  have h:=hp.1.1.2
  exact ⟨h.k,h.ex,h.n,h.nm,h.ifs,hp.1.2.getD,h.fs,h.ins,h.ms,hp.2,h.rs,h.rp,h.ps,h.pos⟩
include hN in
theorem inu_4 {y y':Sy} (h:P → EqY pl N y y'):Ok4 pl m s e P (EqY pl N) (inuT (typF N) (litF true N) y) (inuT (typF N') (litF true N') y') N N':=
 (nmd_4 h).yb fun y y' => (dirsL_4 N').bnd fun d d' => (optT_4 (inp_go N) (inp_go N') (inp_4 hN N') dl_lc dl_rc).bnd fun f f' => ret_4 fun hp => by
  have h:=hp.1.1.2
  exact ⟨h.k,h.ex,h.n,h.nm,h.ifs,hp.1.2.getD,h.fs,hp.2,h.ms,h.vs,h.rs,h.rp,h.ps,h.pos⟩
include hN in
theorem dird_4 {y y':Sy} (h:P → EqY pl N y y'):Ok4 pl m s e P (EqY pl N) (dirT (typF N) (litF true N) N y) (dirT (typF N') (litF true N') N' y') N N':=
 (wantR_4 _ dl_at).bnd fun _ _ => (nmd_4 (P:=P ∧ _) fun hp => h hp.1).yb fun y y' => (optT_4 (inp_go N) (inp_go N') (inp_4 hN N') dl_lp dl_rp).bnd fun f f' => (wordR_4 _).bnd fun r r' => (wwR_4 _).bnd fun _ _ => (parT_4 dl_pipe (fun _ _ _ => wwN_4 _) N N').bnd fun p p' => ret_4 fun hp => by
  have h:=hp.1.1.1.1.2
  exact ⟨h.k,h.ex,h.n,h.nm,h.ifs,h.ds,h.fs,hp.1.1.1.2,h.ms,h.vs,h.rs,hp.1.1.2,hp.2,h.pos⟩
theorem kw_4 {b b':Nat} (q:ByteArray) {E E' F F':Cu → Sy × Cu} {V:Sy → Sy → Prop} (h:Ok4 pl m s e P V E E' b b') (k:Ok4 pl m s e P V F F' b b'):Ok4 pl m s e P V (kwT q E F) (kwT q E' F') b b':=
 (wordR_4 q).bnd fun x x' => cond_4 (fun hp => hp.2) (h.imp fun hp => hp.1) (k.imp fun hp => hp.1)
include hN in
theorem key_4 {y y':Sy} (h:P → EqY pl N y y'):Ok4 pl m s e P (EqY pl N) (keyT (typF N) (litF true N) N y) (keyT (typF N') (litF true N') N' y') N N':=
 Ok4.tb fun t t' =>
  kw_4 _ (sch_4 N' fun hp => (h hp.1).at 1 hp.2) (kw_4 _ (sca_4 N' fun hp => (h hp.1).at 2 hp.2) (kw_4 _ (obj_4 hN N' fun hp => (h hp.1).at 3 hp.2) (kw_4 _ (obj_4 hN N' fun hp => (h hp.1).at 4 hp.2) (kw_4 _ (uni_4 N' fun hp => (h hp.1).at 5 hp.2) (kw_4 _ (enu_4 N' fun hp => (h hp.1).at 6 hp.2) (kw_4 _ (inu_4 hN N' fun hp => (h hp.1).at 7 hp.2) (cond_4 (fun hp => (h hp.1).ex) (stopR_4 fun hp => h hp.1) (kw_4 _ (dird_4 hN N' fun hp => (h hp.1).at 8 hp.2) (stopR_4 fun hp => h hp.1)))))))))
include hN in
theorem def_4:Ok4 pl m s e P (EqD pl N) (defT (typF N) (litF true N) N) (defT (typF N') (litF true N') N') N N':=
 noteR_4.bnd fun n n' => (cond_4 (V:=Eq) (fun hp => by rw [hp.2]) (ret_4 fun _ => rfl) (wordR_4 _)).bnd fun x x' => (key_4 (P:=(P ∧ n = n') ∧ x = x') hN N' fun hp => by obtain ⟨⟨_,rfl⟩,rfl⟩:=hp;exact EqY.of pl N n x).yb fun y y' => cond_4 (fun hp => by rw [hp.2.ex,hp.2.bare]) (stopR_4 fun hp => ⟨y,y',rfl,rfl,hp.2⟩) (ret_4 fun hp => ⟨y,y',rfl,rfl,hp.2⟩)
include hN in
theorem sd_4:Ok4 pl m s e P (OD (EqD pl N)) (sdN N) (sdN N') N N':=optR_4 (def_4 hN N')
end
section
variable {pl:Bool} {m s:Nat}
theorem sdocS_4 (c c':Cu) (hc:c.Ok) (hc':c'.Ok) (hs:Sf pl m s 0 c c') (hm:(sdocS c).2.ix ≤ m):((∃ r r',(sdocS c).1 = some r ∧ (sdocS c').1 = some r' ∧ EqLs (EqD pl c.ts.length) r r') ∨ ((sdocS c).1 = none ∧ (sdocS c').1 = none)) ∧ Sf pl m s 0 (sdocS c).2 (sdocS c').2:=by
 have hl:=hc.lt
 exact defsF_4 (sd_go _) (sd_go _) (sd_4 (by omega) _) [] _ _ [] [] c c' hc hc' hs (by omega) (by omega) (by omega) (by omega) EqLs.nil (.inl rfl) hm
end
end Go.Proofs.YtifbkdicglcogaaGreat.cu
namespace Go.Proofs.YtifbkdicglcogaaGreat.lx
open mem (pfx digB digs digAt isAt bWhole bPart bPoint bMark pfxFirst pfxR posT enB prB digsF)
open cu (Tk)
structure Shf (l l':List Int) (n:Nat):Prop where
 len:l'.length = n + l.length
 dr:l'.drop n = l
theorem Shf.of (p l:List Int):Shf l (p ++ l) p.length:=⟨by simp,by simp⟩
section
variable {l l':List Int} {n:Nat} (H:Shf l l' n)
include H
theorem Shf.at (i:Nat):cAt l' (n + i) = cAt l i:=by
 unfold cAt
 have h1:=H.len
 rcases Nat.lt_or_ge i l.length with g | g
 ·rw [if_pos g,if_pos (by omega),List.getD_eq_getElem?_getD,List.getD_eq_getElem?_getD,← H.dr,List.getElem?_drop]
 ·rw [if_neg (by omega),if_neg (by omega)]
theorem Shf.at1 (i:Nat):cAt l' (n + i + 1) = cAt l (i + 1):=H.at (i + 1)
theorem Shf.at2 (i:Nat):cAt l' (n + i + 2) = cAt l (i + 2):=H.at (i + 2)
theorem ignF_shf:∀ (f:Nat) (b:Bool) (i:Nat),ignF l' f b (n + i) = n + ignF l f b i
 | 0,b,i => rfl
 | f + 1,false,i => by
  simp only [ignF,H.at]
  split
  ·exact ignF_shf f false (i + 1)
  ·split
   ·exact ignF_shf f true (i + 1)
   ·rfl
 | f + 1,true,i => by
  simp only [ignF,H.at]
  split
  ·exact ignF_shf f false (i + 1)
  ·split
   ·exact ignF_shf f true (i + 1)
   ·rfl
theorem ign_shf (b:Bool) (i:Nat):ign l' b (n + i) = n + ign l b i:=by
 unfold ign
 rw [H.len,show n + l.length + 1 - (n + i) = l.length + 1 - i by omega]
 exact ignF_shf H _ b i
theorem namF_shf:∀ (f:Nat) (i:Nat),namF l' f (n + i) = n + namF l f i
 | 0,i => rfl
 | f + 1,i => by
  simp only [namF,H.at]
  split
  ·exact namF_shf f (i + 1)
  ·rfl
theorem nam_shf (i:Nat):nam l' (n + i) = n + nam l i:=by
 unfold nam
 rw [H.len,show n + l.length + 1 - (n + i) = l.length + 1 - i by omega]
 exact namF_shf H _ i
theorem digAt_shf (i:Nat):digAt l' (n + i) = digAt l i:=by rw [digAt_c,digAt_c,H.at]
theorem isAt_shf (i:Nat) (c:Int) (hc:c ≠ -1):isAt l' (n + i) c = isAt l i c:=by rw [isAt_c _ _ _ hc,isAt_c _ _ _ hc,H.at]
theorem digsF_shf:∀ (f:Nat) (i:Nat),digsF l' f (n + i) = n + digsF l f i
 | 0,i => rfl
 | f + 1,i => by
  simp only [digsF,digAt_shf H]
  split
  ·exact digsF_shf f (i + 1)
  ·rfl
theorem digs_shf (i:Nat):digs l' (n + i) = n + digs l i:=by
 unfold digs
 rw [H.len,show n + l.length - (n + i) = l.length - i by omega]
 exact digsF_shf H _ i
theorem bWhole_shf (i:Nat):bWhole l' (n + i) = n + bWhole l i:=by
 unfold bWhole
 rw [isAt_shf H i 48 (by decide),digs_shf H]
 split <;> rfl
theorem bPoint_shf (i:Nat):bPoint l' (n + i) = n + bPoint l i:=by
 unfold bPoint
 rw [isAt_shf H i 46 (by decide)]
 split <;> rfl
theorem pfxFirst_shf (i:Nat):pfxFirst l' (n + i) = n + pfxFirst l i:=by
 unfold pfxFirst
 rw [isAt_shf H i 45 (by decide)]
 split <;> rfl
theorem bMark_shf (i:Nat):bMark l' (n + i) = n + bMark l i:=by
 unfold bMark
 rw [isAt_shf H i 101 (by decide),isAt_shf H i 69 (by decide),show n + i + 1 = n + (i + 1) from rfl,isAt_shf H (i + 1) 43 (by decide),isAt_shf H (i + 1) 45 (by decide)]
 split
 ·rfl
 ·split <;> rfl
theorem bPart_shf (i q:Nat):bPart l' (n + i) (n + q) = (n + (bPart l i q).1,n + (bPart l i q).2):=by
 unfold bPart
 rw [digs_shf H]
 by_cases h1:q = i
 ·rw [if_pos h1,if_pos (by omega)]
 ·rw [if_neg h1,if_neg (by omega)]
  by_cases h2:digs l q = q
  ·rw [if_pos h2,if_pos (by omega)]
  ·rw [if_neg h2,if_neg (by omega)]
theorem pfxR_shf (i:Nat):pfxR l' (n + i) = (n + (pfxR l i).1,n + (pfxR l i).2):=by
 unfold pfxR
 rw [bPoint_shf H,bPart_shf H]
 dsimp only
 rw [bMark_shf H,bPart_shf H]
 by_cases h:(bPart l i (bPoint l i)).1 = (bPart l i (bPoint l i)).2
 ·rw [if_pos h,if_pos (by omega)]
 ·rw [if_neg h,if_neg (by omega)]
theorem pfx_shf (i:Nat):pfx l' (n + i) = (n + (pfx l i).1,n + (pfx l i).2.1,(pfx l i).2.2):=by
 unfold pfx
 rw [pfxFirst_shf H,bWhole_shf H,pfxR_shf H]
 dsimp only
 by_cases h:bWhole l (pfxFirst l i) = pfxFirst l i
 ·rw [if_pos h,if_pos (by omega)]
 ·rw [if_neg h,if_neg (by omega)]
  dsimp only
  congr 2
  by_cases g:(pfxR l (bWhole l (pfxFirst l i))).1 > bWhole l (pfxFirst l i)
  ·rw [if_pos g,if_pos (by omega)]
  ·rw [if_neg g,if_neg (by omega)]
theorem num_shf (i:Nat):num l' (n + i) = ((num l i).1,n + (num l i).2):=by
 unfold num
 rw [pfx_shf H]
 dsimp only
 rw [H.at]
 split
 ·rfl
 ·split
  ·rfl
  ·split <;> rfl
theorem tq_shf (i:Nat):tq l' (n + i) = tq l i:=by
 unfold tq
 rw [H.at,H.at1,H.at2]
theorem endB_shf:∀ (k i:Nat),endB l' k (n + i) = (endB l k i).map (n + ·)
 | 0,i => rfl
 | k + 1,i => by
  simp only [endB]
  rw [tq_shf H,H.at,show n + i + 1 = n + (i + 1) from rfl,tq_shf H,show n + i + 4 = n + (i + 4) from rfl,endB_shf k (i + 4),endB_shf k (i + 1)]
  split
  ·rfl
  ·split
   ·rfl
   ·split <;> rfl
theorem endQ_shf:∀ (k i:Nat),endQ l' k (n + i) = (endQ l k i).map (n + ·)
 | 0,i => rfl
 | k + 1,i => by
  simp only [endQ]
  rw [H.at,show n + i + 1 = n + (i + 1) from rfl,H.at,show n + i + 2 = n + (i + 2) from rfl,endQ_shf k (i + 2),endQ_shf k (i + 1)]
  split
  ·rfl
  ·split
   ·split <;> rfl
   ·split <;> rfl
theorem insZ_shf (p i:Nat):insZ l' (n + p) (n + i) = insZ l p i:=by
 unfold insZ
 rw [← List.drop_drop,H.dr,show n + i - (n + p) = i - p by omega]
omit H in
theorem endB_fuel (l:List Int):∀ (k k' i:Nat),l.length + 1 ≤ k + i → l.length + 1 ≤ k' + i → endB l k i = endB l k' i
 | 0,0,i,h,h' => rfl
 | 0,k' + 1,i,h,h' => by
  have e:cAt l i = -1:=cAt_end (by omega)
  have t:tq l i = false:=by unfold tq;rw [e];rfl
  simp only [endB,e,t]
  rfl
 | k + 1,0,i,h,h' => by
  have e:cAt l i = -1:=cAt_end (by omega)
  have t:tq l i = false:=by unfold tq;rw [e];rfl
  simp only [endB,e,t]
  rfl
 | k + 1,k' + 1,i,h,h' => by
  simp only [endB]
  rw [endB_fuel l k k' (i + 4) (by omega) (by omega),endB_fuel l k k' (i + 1) (by omega) (by omega)]
omit H in
theorem endQ_fuel (l:List Int):∀ (k k' i:Nat),l.length + 1 ≤ k + i → l.length + 1 ≤ k' + i → endQ l k i = endQ l k' i
 | 0,0,i,h,h' => rfl
 | 0,k' + 1,i,h,h' => by
  have e:cAt l i = -1:=cAt_end (by omega)
  simp only [endQ,e]
  rfl
 | k + 1,0,i,h,h' => by
  have e:cAt l i = -1:=cAt_end (by omega)
  simp only [endQ,e]
  rfl
 | k + 1,k' + 1,i,h,h' => by
  simp only [endQ]
  rw [endQ_fuel l k k' (i + 2) (by omega) (by omega),endQ_fuel l k k' (i + 1) (by omega) (by omega)]
theorem blc_shf (bS:List Int → ByteArray) (i:Nat):blc bS l' (n + i) = ((blc bS l i).1,n + (blc bS l i).2.1,(blc bS l i).2.2):=by
 unfold blc
 rw [H.len,show n + i + 3 = n + (i + 3) from rfl,endB_shf H,endB_fuel l (n + l.length + 2) (l.length + 2) (i + 3) (by omega) (by omega)]
 cases endB l (l.length + 2) (i + 3) with
 | none => rfl
 | some j =>
  show (7,n + j + 3,bS (insZ l' (n + i + 3) (n + j))) = _
  rw [show n + i + 3 = n + (i + 3) from rfl,insZ_shf H]
  rfl
theorem qtd_shf (i:Nat):qtd l' (n + i) = ((qtd l i).1,n + (qtd l i).2.1,(qtd l i).2.2):=by
 unfold qtd
 rw [H.len,show n + i + 1 = n + (i + 1) from rfl,endQ_shf H,endQ_fuel l (n + l.length + 2) (l.length + 2) (i + 1) (by omega) (by omega)]
 cases endQ l (l.length + 2) (i + 1) with
 | none => rfl
 | some j =>
  show qtdR l' (n + i) (some (n + j)) = _
  unfold qtdR
  dsimp only
  rw [show n + i + 1 = n + (i + 1) from rfl,insZ_shf H]
  cases quo (insZ l (i + 1) j) <;> rfl
theorem rdG_shf (cl:Bool) (i:Nat):rdG l' cl (n + i) = ((rdG l cl i).1,n + (rdG l cl i).2.1,(rdG l cl i).2.2):=by
 unfold rdG
 rw [H.at,H.at1,H.at2,show n + i + 1 = n + (i + 1) from rfl,nam_shf H,num_shf H,tq_shf H,blc_shf H,qtd_shf H]
 have h1:(n + i = l'.length ∧ cl = true) ↔ (i = l.length ∧ cl = true):=by rw [H.len];constructor <;> (rintro ⟨a,b⟩;exact ⟨by omega,b⟩)
 by_cases h0:i = l.length ∧ cl = true
 ·rw [if_pos h0,if_pos (h1.2 h0)]
 ·rw [if_neg h0,if_neg (fun x => h0 (h1.1 x))]
  split
  ·split <;> rfl
  ·split
   ·rfl
   ·split
    ·rfl
    ·split
     ·rfl
     ·split
      ·rfl
      ·split <;> rfl
def shT (l':List Int) (n:Nat) (t:Tk):Tk:=⟨t.k,(posT l' (n + t.fr)).1,(posT l' (n + t.fr)).2,n + t.fr,n + t.to,t.tx,t.va⟩
theorem tkG_shf (cl:Bool) (i:Nat):tkG l' cl (n + i) = shT l' n (tkG l cl i):=by
 unfold tkG shT
 rw [ign_shf H,rdG_shf H]
 dsimp only
 congr 2
 obtain ⟨a,ha⟩:∃ a,a = (rdG l cl (ign l false i)).2.1:=⟨_,rfl⟩
 obtain ⟨b,hb⟩:∃ b,b = ign l false i:=⟨_,rfl⟩
 rw [← ha,← hb,List.drop_take,List.drop_take,← List.drop_drop,H.dr,show n + a - (n + b) = a - b by omega]
theorem tksGF_shf (cl:Bool):∀ (f i:Nat),tksGF l' cl f (n + i) = (tksGF l cl f i).map (shT l' n)
 | 0,i => rfl
 | f + 1,i => by
  simp only [tksGF]
  rw [tkG_shf H]
  have e:(shT l' n (tkG l cl i)).k = (tkG l cl i).k:=rfl
  have e2:(shT l' n (tkG l cl i)).to = n + (tkG l cl i).to:=rfl
  rw [e,e2]
  split
  ·rfl
  ·rw [tksGF_shf cl f _]
   rfl
theorem tksG_shf (cl:Bool) {i:Nat} (hi:i ≤ l.length):tksG l' cl (n + i) = (tksG l cl i).map (shT l' n):=by
 unfold tksG
 rw [tksGF_more l' cl (l'.length + 1) (l.length + 1) (n + i) (by omega) (by rw [H.len];omega) (by rw [H.len];omega)]
 exact tksGF_shf H cl _ i
end
theorem rdG_zero {l:List Int} {cl:Bool} {i:Nat} (hi:i ≤ l.length) (h:(rdG l cl i).1 = 0):i = l.length ∧ cl = true:=by
 by_cases h0:i = l.length ∧ cl = true
 ·exact h0
 ·exfalso
  unfold rdG at h
  rw [if_neg h0] at h
  split at h
  ·split at h <;> cases h
  ·split at h
   ·cases h
   ·split at h
    ·cases h
    ·split at h
     ·exact (num_le l i hi).2.2.2 h
     ·split at h
      ·exact (blc_le sv.bS l i hi).2.2.2 h
      ·split at h
       ·exact (qtd_le l i hi).2.2.2 h
       ·cases h
end Go.Proofs.YtifbkdicglcogaaGreat.lx
namespace Go.Proofs.YtifbkdicglcogaaGreat.cu
open dt (Dt Kp RowAt Ow Grow)
open mem (decF decZ putB scB Byt posT enB)
open lx (toks chs cln tksG tkG shT)
theorem dec_app {zs:List Int} (h:zs.all scB = true) (r:List Int):decZ (zs.flatMap putB ++ r) = (zs ++ (decZ r).1,(zs.flatMap putB).length + (decZ r).2):=by
 have hlen:zs.length ≤ (zs.flatMap putB).length:=mem.flat_ge _
 unfold decZ
 rw [decF_fuel _ (zs.length + (zs.flatMap putB ++ r).length) _ (Nat.le_refl _) (by omega),decF_app _ _ _ h]
 rw [decF_fuel _ r.length r (by rw [List.length_append];omega) (Nat.le_refl _)]
theorem chs_app {zs:List Int} (h:zs.all scB = true) (r:List Int):chs (zs.flatMap putB ++ r) = zs ++ chs r:=by unfold chs;rw [dec_app h]
theorem cln_app {zs:List Int} (h:zs.all scB = true) (r:List Int):cln (zs.flatMap putB ++ r) = cln r:=by
 unfold cln
 rw [dec_app h,List.length_append]
 exact decide_eq_decide.2 (by dsimp only;omega)
theorem clean_flat {z:List Int} (hz:Byt z) (hc:cln z = true):z = (chs z).flatMap putB ∧ (chs z).all scB = true:=by
 have h:=mem.decF_flat z.length z hz
 have h2:(decZ z).2 = z.length:=of_decide_eq_true hc
 unfold decZ at h2
 refine ⟨?_,h.2.2.1⟩
 have:=h.1
 rw [h2,List.take_length] at this
 exact this.symm
theorem tks_zero (l:List Int) (cl:Bool):∀ (m i:Nat) (t:Tk),i ≤ l.length → (tksG l cl i)[m]? = some t → t.k = 0 → cl = true
 | 0,i,t,hi,h,hk => by
  have h0:(tksG l cl i)[0]? = some (tkG l cl i):=by
   by_cases he:(tkG l cl i).k = 0 ∨ (tkG l cl i).k = 1
   ·rw [lx.tksG_end he];rfl
   ·rw [lx.tksG_go hi he];rfl
  rw [h0] at h
  obtain rfl:=Option.some.inj h
  exact (lx.rdG_zero ((lx.ign_le l false i).2 hi) hk).2
 | m + 1,i,t,hi,h,hk => by
  have hle:=lx.tkG_le l cl i hi
  by_cases he:(tkG l cl i).k = 0 ∨ (tkG l cl i).k = 1
  ·rw [lx.tksG_end he] at h;simp at h
  ·rw [lx.tksG_go hi he] at h
   exact tks_zero l cl m _ t hle.2.1 (by simpa using h) hk
open lx (toks chs cln tksG tkG shT cAt ign rdG)
theorem chs_flat {cs:List Int} (h:cs.all scB = true):chs (cs.flatMap putB) = cs ∧ cln (cs.flatMap putB) = true:=by
 have h1:=chs_app h []
 have h2:=cln_app h []
 rw [List.append_nil] at h1 h2
 exact ⟨by rw [h1];simp [chs,mem.decZ,mem.decF],by rw [h2];rfl⟩
def sepC (c:Int):Prop:=c = 10 ∨ c = -1 ∨ c = 123 ∨ c = 125 ∨ c = 32 ∨ c = 9 ∨ c = 13 ∨ c = 44 ∨ c = 65279
theorem at0 (a:Int) (r:List Int):cAt (a :: r) 0 = a:=rfl
structure Gap (G:List Int):Prop where
 pass:∀ R,ign (G ++ R) false 0 = G.length + ign R false 0
 ne:∃ c r,G = c :: r ∧ sepC c
 sc:G.all scB = true
theorem ign_step (c:Int) (R:List Int) (h:lx.blB c = true):ign (c :: R) false 0 = 1 + ign R false 0:=by
 rw [lx.ign_f,at0,if_pos h]
 exact lx.ign_shf (lx.Shf.of [c] R) false 0
theorem gap_one {c:Int} (h:lx.blB c = true) (hs:sepC c) (hc:scB c = true):Gap [c]:=⟨fun R => ign_step c R h,⟨c,[],rfl,hs⟩,by simp [hc]⟩
theorem Gap.app {G H:List Int} (g:Gap G) (h:Gap H):Gap (G ++ H):=by
 refine ⟨fun R => ?_,?_,by rw [List.all_append,g.sc,h.sc];rfl⟩
 ·rw [List.append_assoc,g.pass,h.pass,List.length_append]
  omega
 ·obtain ⟨c,r,rfl,hs⟩:=g.ne
  exact ⟨c,r ++ H,rfl,hs⟩
def txZ (l:List Int) (t:Tk):List Int:=(l.take t.to).drop t.fr
def farZ (l:List Int) (gp:Nat → List Int):Nat → List Tk → List Int
 | _,[] => []
 | j,t :: ts => gp j ++ (txZ l t ++ farZ l gp (j + 1) ts)
theorem first_sep {l:List Int} {gp:Nat → List Int} (hg:∀ j,Gap (gp j)) (j:Nat) (ts:List Tk):sepC (cAt (farZ l gp j ts) 0):=by
 cases ts with
 | nil => exact .inr (.inl rfl)
 | cons t ts =>
  obtain ⟨c,r,e,hs⟩:=(hg j).ne
  unfold farZ
  rw [e]
  exact hs
theorem rd_own {l:List Int} {i:Nat} (hi:i ≤ l.length) {cl cl':Bool} (R:List Int) (hR:sepC (cAt R 0)) (h0:(rdG l cl i).1 ≠ 0) (h1:(rdG l cl i).1 ≠ 1):rdG ((l.take (rdG l cl i).2.1).drop i ++ R) cl' 0 = ((rdG l cl i).1,(rdG l cl i).2.1 - i,(rdG l cl i).2.2):=by
 have hle:=lx.rdG_le l cl i hi
 have hsh:lx.Shf (l.drop i) l i:=⟨by simp;omega,rfl⟩
 have hr:=lx.rdG_shf hsh cl 0
 rw [Nat.add_zero] at hr
 obtain ⟨T,hT⟩:∃ T,T = (rdG l cl i).2.1 - i:=⟨_,rfl⟩
 have hTo:(rdG (l.drop i) cl 0).2.1 = T:=by rw [hT,hr];dsimp only;omega
 have hdl:(l.drop i).length = l.length - i:=by simp
 have hX:(l.take (rdG l cl i).2.1).drop i = (l.drop i).take T:=by rw [List.drop_take,hT]
 have hXl:((l.drop i).take T).length = T:=by rw [List.length_take,hdl];omega
 have hk:(rdG (l.drop i) cl 0).1 = (rdG l cl i).1:=by rw [hr]
 have hv:(rdG (l.drop i) cl 0).2.2 = (rdG l cl i).2.2:=by rw [hr]
 have H:lx.Lox (l.drop i) ((l.drop i).take T ++ R) T:=by
  refine ⟨?_,by rw [hdl];omega,by rw [List.length_append,hXl];omega,?_⟩
  ·rw [List.take_append_of_le_length (by rw [hXl];exact Nat.le_refl _),List.take_take,Nat.min_self]
  ·have e:=(lx.Shf.of ((l.drop i).take T) R).at 0
   rw [hXl,Nat.add_zero] at e
   rw [e]
   exact hR
 have hlx:=lx.rdG_lox H (cl:=cl) (cl':=cl') (F:=0) (Nat.zero_le _) (by rw [hk];exact h0) (by rw [hk];exact h1) (by rw [hTo];exact Nat.le_refl _)
 rw [hX,hlx,← hT]
 have:rdG (l.drop i) cl 0 = ((rdG (l.drop i) cl 0).1,(rdG (l.drop i) cl 0).2.1,(rdG (l.drop i) cl 0).2.2):=rfl
 rw [this,hk,hTo,hv]
theorem rd_first {l:List Int} {cl:Bool} {i:Nat} (h0:(rdG l cl i).1 ≠ 0) (h1:(rdG l cl i).1 ≠ 1):lx.blB (cAt l i) = false ∧ cAt l i ≠ 35:=by
 have key:∀ c:Int,c = 9 ∨ c = 10 ∨ c = 13 ∨ c = 32 ∨ c = 44 ∨ c = 65279 ∨ c = 35 → cAt l i = c → False:=by
  intro c hc e
  apply h1
  unfold rdG at h0 ⊢
  by_cases hz:i = l.length ∧ cl = true
  ·rw [if_pos hz] at h0;exact absurd rfl h0
  ·rw [if_neg hz,e]
   have ht:lx.tq l i = false:=by
    unfold lx.tq
    rw [e]
    exact decide_eq_false fun x => by omega
   rw [ht]
   rcases hc with rfl | rfl | rfl | rfl | rfl | rfl | rfl <;> rfl
 refine ⟨?_,fun e => key 35 (by omega) e⟩
 cases hb:lx.blB (cAt l i) with
 | false => rfl
 | true =>
  exfalso
  have:=of_decide_eq_true hb
  exact key (cAt l i) (by omega) rfl
theorem tksG_k0 {l:List Int} (g:List Int) (hg:Gap g):tksG g true 0 = [tkG g true 0] ∧ (tkG g true 0).k = 0 ∧ (tkG g true 0).tx = mem.encS [] ∧ (tkG g true 0).va = lx.E0:=by
 have hp:=hg.pass []
 rw [List.append_nil] at hp
 have he:ign ([]:List Int) false 0 = 0:=by decide
 rw [he,Nat.add_zero] at hp
 have hr:rdG g true (ign g false 0) = (0,g.length,lx.E0):=by
  rw [hp]
  unfold rdG
  rw [if_pos ⟨rfl,rfl⟩]
 have hk:(tkG g true 0).k = 0:=by show (rdG g true (ign g false 0)).1 = 0;rw [hr]
 refine ⟨lx.tksG_end (.inl hk),hk,?_,?_⟩
 ·show mem.encS ((g.take (rdG g true (ign g false 0)).2.1).drop (ign g false 0)) = _
  rw [hr,hp]
  congr 1
  simp
 ·show (rdG g true (ign g false 0)).2.2 = _
  rw [hr]
theorem far_toks {l:List Int} {gp:Nat → List Int} (hg:∀ j,Gap (gp j)):∀ (ts:List Tk) (i j:Nat),i ≤ l.length → tksG l true i = ts → (∀ t ∈ ts,t.k ≠ 1) → (tksG (farZ l gp j ts) true 0).length = ts.length ∧ ∀ (q:Nat) t,ts[q]? = some t → ∃ t',(tksG (farZ l gp j ts) true 0)[q]? = some t' ∧ EqT false t t'
 | [],i,j,hi,h,hb => by
  exfalso
  by_cases he:(tkG l true i).k = 0 ∨ (tkG l true i).k = 1
  ·rw [lx.tksG_end he] at h;cases h
  ·rw [lx.tksG_go hi he] at h;cases h
 | t :: ts,i,j,hi,h,hb => by
  have hle:=lx.tkG_le l true i hi
  have hF:=(lx.ign_le l false i).2 hi
  by_cases he:(tkG l true i).k = 0 ∨ (tkG l true i).k = 1
  ·rw [lx.tksG_end he] at h
   obtain ⟨h1,h2⟩:tkG l true i = t ∧ [] = ts:=by simpa using h
   subst h2
   have hk:t.k = 0:=by
    rw [← h1]
    rcases he with e | e
    ·exact e
    ·exact absurd (h1 ▸ e) (hb t (List.mem_cons_self ..))
   have hz:=lx.rdG_zero hF (by rw [← h1] at hk;exact hk)
   have hrd:rdG l true (ign l false i) = (0,ign l false i,lx.E0):=by unfold rdG;rw [if_pos hz]
   have htx:txZ l t = []:=by
    rw [← h1]
    show (l.take (rdG l true (ign l false i)).2.1).drop (ign l false i) = []
    rw [hrd]
    simp
   have hfz:farZ l gp j [t] = gp j:=by
    show gp j ++ (txZ l t ++ []) = gp j
    rw [htx]
    simp
   obtain ⟨q1,q2,q3,q4⟩:=tksG_k0 (l:=l) (gp j) (hg j)
   rw [hfz,q1]
   refine ⟨rfl,fun q u hu => ?_⟩
   cases q with
   | succ q => simp at hu
   | zero =>
    simp at hu
    subst hu
    refine ⟨_,rfl,q2.trans hk.symm,?_,?_,fun e => by cases e⟩
    ·rw [q3,← h1]
     show mem.encS [] = mem.encS ((l.take (rdG l true (ign l false i)).2.1).drop (ign l false i))
     rw [hrd]
     congr 1
     simp
    ·rw [q4,← h1]
     show lx.E0 = (rdG l true (ign l false i)).2.2
     rw [hrd]
  ·have e0:(rdG l true (ign l false i)).1 ≠ 0:=fun e => he (.inl e)
   have e1:(rdG l true (ign l false i)).1 ≠ 1:=fun e => he (.inr e)
   rw [lx.tksG_go hi he] at h
   obtain ⟨h1,h2⟩:tkG l true i = t ∧ tksG l true (tkG l true i).to = ts:=by simpa using h
   have ih:=far_toks hg ts (tkG l true i).to (j + 1) hle.2.1 h2 (fun u hu => hb u (List.mem_cons_of_mem _ hu))
   obtain ⟨F2,hF2⟩:∃ F2,F2 = farZ l gp (j + 1) ts:=⟨_,rfl⟩
   have hsep:=first_sep (l:=l) hg (j + 1) ts
   rw [← hF2] at ih hsep
   obtain ⟨X,hX⟩:∃ X,X = (l.take (rdG l true (ign l false i)).2.1).drop (ign l false i):=⟨_,rfl⟩
   have hfz:farZ l gp j (t :: ts) = gp j ++ (X ++ F2):=by
    show gp j ++ (txZ l t ++ farZ l gp (j + 1) ts) = _
    rw [← hF2,hX,← h1]
    rfl
   have hrl:=lx.rdG_le l true (ign l false i) hF
   have hlt:ign l false i < (rdG l true (ign l false i)).2.1:=by rcases hrl.2.2 with e | e | e;exact absurd e e0;exact absurd e e1;exact e
   obtain ⟨T,hT⟩:∃ T,T = (rdG l true (ign l false i)).2.1 - ign l false i:=⟨_,rfl⟩
   have hXl:X.length = T:=by rw [hX,List.length_drop,List.length_take,hT];omega
   have hro:rdG (X ++ F2) true 0 = ((rdG l true (ign l false i)).1,T,(rdG l true (ign l false i)).2.2):=by
    have:=rd_own (cl':=true) hF F2 hsep e0 e1
    rw [← hX,← hT] at this
    exact this
   have hfst:=rd_first (l:=X ++ F2) (cl:=true) (i:=0) (by rw [hro];exact e0) (by rw [hro];exact e1)
   have hig:ign (X ++ F2) false 0 = 0:=by rw [lx.ign_f,hfst.1,if_neg (by decide),if_neg hfst.2]
   have hp:=(hg j).pass (X ++ F2)
   rw [hig,Nat.add_zero] at hp
   have hsh:=lx.rdG_shf (lx.Shf.of (gp j) (X ++ F2)) true 0
   rw [Nat.add_zero,hro] at hsh
   dsimp only at hsh
   obtain ⟨f,hf⟩:∃ f,f = gp j ++ (X ++ F2):=⟨_,rfl⟩
   rw [hfz,← hf]
   rw [← hf] at hp hsh
   have hk:(tkG f true 0).k = t.k:=by
    show (rdG f true (ign f false 0)).1 = t.k
    rw [hp,hsh,← h1]
    rfl
   have hto:(tkG f true 0).to = (gp j).length + T:=by
    show (rdG f true (ign f false 0)).2.1 = _
    rw [hp,hsh]
   have hva:(tkG f true 0).va = t.va:=by
    show (rdG f true (ign f false 0)).2.2 = t.va
    rw [hp,hsh,← h1]
    rfl
   have htx:(tkG f true 0).tx = t.tx:=by
    show mem.encS ((f.take (rdG f true (ign f false 0)).2.1).drop (ign f false 0)) = t.tx
    rw [hp,hsh,← h1]
    show mem.encS ((f.take ((gp j).length + T)).drop (gp j).length) = mem.encS ((l.take (rdG l true (ign l false i)).2.1).drop (ign l false i))
    rw [← hX,List.drop_take,hf]
    congr 1
    rw [List.drop_left,show (gp j).length + T - (gp j).length = T by omega,List.take_append_of_le_length (by omega),List.take_of_length_le (by omega)]
   have hnk:¬ ((tkG f true 0).k = 0 ∨ (tkG f true 0).k = 1):=by rw [hk,← h1];exact he
   have hgo:=lx.tksG_go (l:=f) (cl:=true) (i:=0) (Nat.zero_le _) hnk
   have hSf:lx.Shf F2 f ((gp j).length + T):=by
    have:=lx.Shf.of (gp j ++ X) F2
    rw [List.length_append,hXl,List.append_assoc,← hf] at this
    exact this
   have hsG:=lx.tksG_shf hSf true (i:=0) (Nat.zero_le _)
   rw [Nat.add_zero] at hsG
   rw [hto,hsG] at hgo
   rw [hgo]
   refine ⟨by simp [ih.1],fun q u hu => ?_⟩
   cases q with
   | zero =>
    simp at hu
    subst hu
    exact ⟨_,rfl,hk,htx,hva,fun e => by cases e⟩
   | succ q =>
    rw [List.getElem?_cons_succ] at hu
    obtain ⟨t',y1,y2⟩:=ih.2 q u hu
    refine ⟨shT f ((gp j).length + T) t',?_,y2.1,y2.2.1,y2.2.2.1,fun e => by cases e⟩
    rw [List.getElem?_cons_succ,List.getElem?_map,y1]
    rfl
end Go.Proofs.YtifbkdicglcogaaGreat.cu
