import Derived.Test.YtepmbmbnlmbhhaaGreatLit10
import Derived.Laws.OwnMore
set_option linter.unusedVariables false
set_option linter.unusedSimpArgs false
namespace Go.Proofs.YtepmbmbnlmbhhaaGreat.cr
open Go.ChangeShapes Go.WideShapes Go.ChangeAt Go.RowKit
open ints (Hi uh)
open dt (Dt Kp RowAt Ow)
open cu
theorem isP_of {c:Cu} {q:ByteArray} (h0:c.kd = 0) (h2:c.tok.k = 2) (hq:c.tok.tx = q):c.isP q = true:=decide_eq_true ⟨h0,h2,hq⟩
theorem isP_no {c:Cu} {q:ByteArray} (h:¬ (c.tok.k = 2 ∧ c.tok.tx = q)):c.isP q = false:=decide_eq_false (fun e => h e.2)
theorem one_fin (B p:Nat) (c:Cu) (ct:Bool) (w:World) (K:Int × ByteArray × Bool × Int × Int) (C:Cu) (hK:oneK ct c = K) (hC:oneC ct c = C) (h:Calls Tryz.prog 70 #[ptr B,.bool ct] w fun e w' => e = .returned (.agg (leafC K.1 K.2.1 K.2.2.1 K.2.2.2.1 K.2.2.2.2).toArray) ∧ RurAt w' B p C ∧ Kp B w w'):Calls Tryz.prog 70 #[ptr B,.bool ct] w fun e w' => e = .returned (.agg (oneV ct c).toArray) ∧ RurAt w' B p (oneC ct c) ∧ Kp B w w':=by
 unfold oneV
 rw [hK,hC]
 exact h
theorem one_ok (B p:Nat) (c:Cu) (ct:Bool) (w:World) (h:RurAt w B p c):Calls Tryz.prog 70 #[ptr B,.bool ct] w fun e w' => e = .returned (.agg (oneV ct c).toArray) ∧ RurAt w' B p (oneC ct c) ∧ Kp B w w':=by
 by_cases hkd:c.kd = 0
 ·by_cases k4:c.tok.k = 4
  ·exact one_fin B p c ct w (2,c.tok.tx,false,c.tok.ln,c.tok.co) c.take (by simp [oneK,hkd,k4]) (by simp [oneC,hkd,k4]) (one_int B p c ct w h hkd k4)
  by_cases k5:c.tok.k = 5
  ·exact one_fin B p c ct w (3,c.tok.tx,false,c.tok.ln,c.tok.co) c.take (by simp [oneK,hkd,k5]) (by simp [oneC,hkd,k5]) (one_flt B p c ct w h hkd k5)
  by_cases k6:c.tok.k = 6
  ·exact one_fin B p c ct w (4,c.tok.va,false,c.tok.ln,c.tok.co) c.take (by simp [oneK,hkd,k6]) (by simp [oneC,hkd,k6]) (one_str B p c ct w h hkd k6)
  by_cases k7:c.tok.k = 7
  ·exact one_fin B p c ct w (4,c.tok.va,true,c.tok.ln,c.tok.co) c.take (by simp [oneK,hkd,k7]) (by simp [oneC,hkd,k7]) (one_blk B p c ct w h hkd k7)
  by_cases k3:c.tok.k = 3
  ·by_cases h1:c.tok.tx = bTrue
   ·exact one_fin B p c ct w (5,c.tok.tx,false,c.tok.ln,c.tok.co) c.take (by simp [oneK,hkd,k3,h1]) (by simp [oneC,hkd,k3]) (one_true B p c ct w h hkd k3 h1)
   by_cases h2:c.tok.tx = bFalse
   ·exact one_fin B p c ct w (5,c.tok.tx,false,c.tok.ln,c.tok.co) c.take (by simp [oneK,hkd,k3,h2]) (by simp [oneC,hkd,k3]) (one_false B p c ct w h hkd k3 h1 h2)
   by_cases h3:c.tok.tx = bNull
   ·exact one_fin B p c ct w (6,em,false,c.tok.ln,c.tok.co) c.take (by unfold oneK;rw [if_neg (fun e => e hkd),if_neg k4,if_neg k5,if_neg (by rintro (e | e);exact k6 e;exact k7 e),if_pos k3,if_neg (by rintro (e | e);exact h1 e;exact h2 e),if_pos h3]) (by simp [oneC,hkd,k3]) (one_null B p c ct w h hkd k3 h1 h2 h3)
   ·exact one_fin B p c ct w (7,c.tok.tx,false,c.tok.ln,c.tok.co) c.take (by unfold oneK;rw [if_neg (fun e => e hkd),if_neg k4,if_neg k5,if_neg (by rintro (e | e);exact k6 e;exact k7 e),if_pos k3,if_neg (by rintro (e | e);exact h1 e;exact h2 e),if_neg h3]) (by simp [oneC,hkd,k3]) (one_enum B p c ct w h hkd k3 h1 h2 h3)
  have HK:oneK ct c = if c.isP bDol ∧ ct = false then (1,(if c.take.isN then c.take.tok.tx else em),false,c.tok.ln,c.tok.co) else if c.isP bLb then (8,em,false,c.tok.ln,c.tok.co) else if c.isP bLc then (9,em,false,c.tok.ln,c.tok.co) else (0,em,false,0,0):=by
   unfold oneK
   rw [if_neg (fun e => e hkd),if_neg k4,if_neg k5,if_neg (by rintro (e | e);exact k6 e;exact k7 e),if_neg k3]
  have HC:oneC ct c = if c.isP bDol ∧ ct = false then c.take.name else if c.isP bLb then c.opn bLb else if c.isP bLc then c.opn bLc else c.stop 70:=by
   unfold oneC
   rw [if_neg (fun e => e hkd),if_neg (by rintro (e | e | e | e | e);exact k4 e;exact k5 e;exact k6 e;exact k7 e;exact k3 e)]
  by_cases k2:c.tok.k = 2
  ·by_cases hd:c.tok.tx = bDol
   ·have e1:=isP_of hkd k2 hd
    have e2:c.isP bLb = false:=isP_no (fun e => by have:=e.2;rw [hd] at this;exact absurd this (by decide))
    have e3:c.isP bLc = false:=isP_no (fun e => by have:=e.2;rw [hd] at this;exact absurd this (by decide))
    cases ct with
    | false => exact one_fin B p c false w (1,(if c.take.isN then c.take.tok.tx else em),false,c.tok.ln,c.tok.co) c.take.name (by rw [HK,if_pos ⟨e1,rfl⟩]) (by rw [HC,if_pos ⟨e1,rfl⟩]) (one_var B p c false w h hkd k2 hd rfl)
    | true => exact one_fin B p c true w (0,em,false,0,0) (c.stop 70) (by rw [HK,if_neg (fun e => by cases e.2),e2,e3];rfl) (by rw [HC,if_neg (fun e => by cases e.2),e2,e3];rfl) (one_none3 B p c true w h hkd k2 hd rfl)
   ·have e1:c.isP bDol = false:=isP_no (fun e => hd e.2)
    rw [e1,if_neg (fun e => by cases e.1)] at HK HC
    by_cases hl:c.tok.tx = bLb
    ·have e2:=isP_of hkd k2 hl
     exact one_fin B p c ct w (8,em,false,c.tok.ln,c.tok.co) (c.opn bLb) (by rw [HK,if_pos e2]) (by rw [HC,if_pos e2]) (one_list B p c ct w h hkd k2 hl)
    ·have e2:c.isP bLb = false:=isP_no (fun e => hl e.2)
     rw [e2,if_neg (by decide)] at HK HC
     by_cases ho:c.tok.tx = bLc
     ·have e3:=isP_of hkd k2 ho
      exact one_fin B p c ct w (9,em,false,c.tok.ln,c.tok.co) (c.opn bLc) (by rw [HK,if_pos e3]) (by rw [HC,if_pos e3]) (one_obj B p c ct w h hkd k2 ho)
     ·have e3:c.isP bLc = false:=isP_no (fun e => ho e.2)
      rw [e3,if_neg (by decide)] at HK HC
      exact one_fin B p c ct w (0,em,false,0,0) (c.stop 70) HK HC (one_none2 B p c ct w h hkd k2 hd hl ho)
  ·have e1:c.isP bDol = false:=isP_no (fun e => k2 e.1)
   have e2:c.isP bLb = false:=isP_no (fun e => k2 e.1)
   have e3:c.isP bLc = false:=isP_no (fun e => k2 e.1)
   rw [e1,e2,e3,if_neg (fun e => by cases e.1)] at HK HC
   exact one_fin B p c ct w (0,em,false,0,0) (c.stop 70) HK HC (one_none1 B p c ct w h hkd ⟨k4,k5,k6,k7,k3,k2⟩)
 ·exact one_fin B p c ct w (0,em,false,0,0) c (by unfold oneK;rw [if_pos hkd]) (by unfold oneC;rw [if_pos hkd]) (one_dead B p c ct w h hkd)
structure Fr where
 ob:Bool
 f:Nat
 g:Nat
 ds:List Dt
 pn:Option (ByteArray × Int × Int)
 ln:Int
 co:Int
def Fr.E (ct:Bool) (F:Fr):Cu → Option Dt × Cu:=if F.ob then argS (litF ct F.f) else litF ct F.f
def Fr.right (F:Fr):ByteArray:=if F.ob then bRc else bRb
def Fr.lit (F:Fr) (l:List Dt):Dt:=if F.ob then litD 9 em false .nil (Dt.of l) F.ln F.co else litD 8 em false (Dt.of l) .nil F.ln F.co
def Fr.fin (F:Fr) (x:Option (List Dt) × Cu):Option Dt × Cu:=match x.1 with
 | none => (none,x.2)
 | some l => (some (F.lit l),x.2)
def Fr.put (F:Fr) (d:Dt):Dt:=match F.pn with
 | some (nm,l,c) => fldD nm d l c
 | none => d
def ret (ct:Bool):List Fr → Option Dt × Cu → Option Dt × Cu
 | [],x => x
 | F :: S,x => ret ct S (match x.1 with | none => (none,x.2) | some d => F.fin (brkF (F.E ct) F.right 0 F.g (F.ds ++ [F.put d]) x.2))
theorem ret_none (ct:Bool):∀ (S:List Fr) (c:Cu),ret ct S (none,c) = (none,c)
 | [],c => rfl
 | F :: S,c => ret_none ct S c
def Fr.loop (ct:Bool) (F:Fr) (c:Cu):Option Dt × Cu:=F.fin (brkF (F.E ct) F.right 0 F.g F.ds c)
def Fr.next (F:Fr) (d:Dt):Fr:={ F with ds:=F.ds ++ [F.put d],pn:=none }
theorem ret_some (ct:Bool) (F:Fr) (S:List Fr) (d:Dt) (c:Cu):ret ct (F :: S) (some d,c) = ret ct S ((F.next d).loop ct c):=rfl
theorem loop_close (ct:Bool) (F:Fr) (c:Cu) (g:Nat) (hg:F.g = g + 1) (hp:c.isP F.right = true):F.loop ct c = (some (F.lit F.ds),c.cls F.right):=by
 unfold Fr.loop
 rw [hg,brkF,if_neg (by rw [hp];rintro (e | e);exact absurd e (Nat.not_lt_zero _);cases e)]
 rfl
theorem loop_list (ct:Bool) (F:Fr) (S:List Fr) (c:Cu) (g:Nat) (hg:F.g = g + 1) (ho:F.ob = false) (hp:c.isP F.right = false):ret ct S (F.loop ct c) = ret ct ({ F with g:=g,pn:=none } :: S) (litF ct F.f c):=by
 unfold Fr.loop
 rw [hg,brkF,if_pos (.inr hp)]
 show ret ct S _ = ret ct S _
 have hE:F.E ct = litF ct F.f:=by unfold Fr.E;rw [ho];rfl
 rw [hE]
 cases h:(litF ct F.f c).1 with
 | none => rfl
 | some d =>
  have hE2:Fr.E ct { F with g:=g,pn:=none } = litF ct F.f:=by unfold Fr.E;simp only [ho];rfl
  simp only [hE2]
  rfl
theorem loop_obj (ct:Bool) (F:Fr) (S:List Fr) (c:Cu) (g:Nat) (hg:F.g = g + 1) (ho:F.ob = true) (hp:c.isP F.right = false):ret ct S (F.loop ct c) = ret ct ({ F with g:=g,pn:=some (c.tok.tx,c.tok.ln,c.tok.co) } :: S) (litF ct F.f (c.name.want bCol)):=by
 unfold Fr.loop
 rw [hg,brkF,if_pos (.inr hp)]
 show ret ct S _ = ret ct S _
 have hE:F.E ct = argS (litF ct F.f):=by unfold Fr.E;rw [ho];rfl
 rw [hE]
 unfold argS
 cases h:(litF ct F.f (c.name.want bCol)).1 with
 | none => rfl
 | some d =>
  have hE2:Fr.E ct { F with g:=g,pn:=some (c.tok.tx,c.tok.ln,c.tok.co) } = argS (litF ct F.f):=by unfold Fr.E;simp only [ho];rfl
  simp only [hE2]
  rfl
theorem lit_open (ct:Bool) (f:Nat) (c:Cu) (hkd:c.kd = 0) (ob:Bool) (hp:c.isP (if ob then bLc else bLb) = true) (hop:c.opB (if ob then bLc else bLb) = true) :
  litF ct (f + 1) c = Fr.loop ct ⟨ob,f,c.ts.length,[],none,c.tok.ln,c.tok.co⟩ (c.opn (if ob then bLc else bLb)):=by
 have h2:=isP_k hp
 have hne:∀ k:Int,k ≠ 2 → ¬ c.tok.k = k:=fun k hk e => hk (by rw [← e];exact h2.2.1)
 show litS (litF ct f) ct c = _
 unfold litS
 rw [if_neg (fun e => e hkd),if_neg (hne 4 (by decide)),if_neg (hne 5 (by decide)),if_neg (by rintro (e | e);exact hne 6 (by decide) e;exact hne 7 (by decide) e),if_neg (hne 3 (by decide))]
 have hd:c.isP bDol = false:=isP_no (fun e => by have:=e.2;rw [h2.2.2] at this;revert this;cases ob <;> decide)
 rw [if_neg (fun e => by rw [hd] at e;cases e.1)]
 cases ob with
 | false =>
  simp only [Bool.false_eq_true,if_false] at hp hop ⊢
  rw [if_pos hp]
  unfold listS brk
  rw [if_pos hop]
  unfold Fr.loop Fr.fin Fr.E Fr.right Fr.lit
  simp only [Bool.false_eq_true,if_false]
  cases (brkF (litF ct f) bRb 0 c.ts.length [] (c.opn bLb)).1 <;> rfl
 | true =>
  simp only [if_true] at hp hop ⊢
  have hl:c.isP bLb = false:=isP_no (fun e => by have:=e.2;rw [(isP_k hp).2.2] at this;revert this;decide)
  rw [hl,if_neg (by decide),if_pos hp]
  unfold objS brk
  rw [if_pos hop]
  unfold Fr.loop Fr.fin Fr.E Fr.right Fr.lit
  simp only [if_true]
  cases (brkF (argS (litF ct f)) bRc 0 c.ts.length [] (c.opn bLc)).1 <;> rfl
open dt (Dt Kp RowAt Ow OwL OwIn Grow)
theorem owns_setMid {base:Nat} {e:TypeId} {size g n cap:Nat}:∀ (vs old A C:List Value) (w:World),old.length = vs.length → w.ownsRow base e size (.slice (some ⟨g,0,none⟩) n cap) n (A ++ (old ++ C)) → (w.setCells g A.length vs).ownsRow base e size (.slice (some ⟨g,0,none⟩) n cap) n (A ++ (vs ++ C))
 | [],old,A,C,w,hl,h => by
  have:old = []:=List.eq_nil_of_length_eq_zero hl
  subst this
  exact h
 | v :: vs,[],A,C,w,hl,h => by simp at hl
 | v :: vs,o :: old,A,C,w,hl,h => by
  have h1:=(h.stored A.length v).1
  have e1:(A ++ (o :: old ++ C)).set A.length v = (A ++ [v]) ++ (old ++ C):=by simp
  rw [e1] at h1
  have h2:=owns_setMid vs old (A ++ [v]) C _ (by simpa using hl) h1
  have e2:(A ++ [v]).length = A.length + 1:=by simp
  rw [e2] at h2
  simpa [World.setCells] using h2
def obl (v:Value):List Nat:=v.ownBlock.toList
theorem mem_obl {v:Value} {b:Nat}:b ∈ obl v ↔ v.ownBlock = some b:=by
 unfold obl
 cases v.ownBlock with
 | none => simp
 | some x => simp [eq_comm]
theorem Grow.keepF {t:TypeId} {size:Nat} {w w':World} {B:Nat} {l:List Dt} {sl:Value} {G:List Nat} (h:Grow t size w B l sl G) (hs:w.heap.size ≤ w'.heap.size) (hb:∀ b ∈ obl sl ++ G,w'.heap[b]? = w.heap[b]?):Grow t size w' B l sl G:=by
 obtain ⟨xss,hr,hl,hx⟩:=h.row
 have hG:∀ b ∈ G,w'.heap[b]? = w.heap[b]? := fun b hm => hb b (List.mem_append_right _ hm)
 exact ⟨h.nodup,fun b hm => ⟨(h.rng b hm).1,Nat.lt_of_lt_of_le (h.rng b hm).2 hs⟩,h.own,xss,dt.owns_keep hr (fun b h1 h2 h3 => hb b (List.mem_append_left _ (mem_obl.2 h3))),OwL.agree (fun w w' e cs F => Ow.agree e cs F) (fun b hm j => dt.cell_blk (hG b hm) j) hl,hx⟩
theorem Grow.rngF {t:TypeId} {size:Nat} {w:World} {B:Nat} {l:List Dt} {sl:Value} {G:List Nat} (h:Grow t size w B l sl G):(∀ b ∈ obl sl ++ G,B ≤ b ∧ b < w.heap.size) ∧ (obl sl ++ G).Nodup:=by
 obtain ⟨xss,hr,hl,hx⟩:=h.row
 refine ⟨fun b hb => ?_,?_⟩
 ·rcases List.mem_append.1 hb with hb | hb
  ·exact hr.lt b (mem_obl.1 hb)
  ·exact h.rng b hb
 ·rw [List.nodup_append]
  refine ⟨by unfold obl;cases sl.ownBlock <;> simp,h.nodup,fun x hx y hy e => ?_⟩
  subst e
  exact h.own x hy (mem_obl.1 hx)
theorem Grow.shutF {t:TypeId} {size:Nat} {w:World} {B:Nat} {l:List Dt} {sl:Value} {G:List Nat} (h:Grow t size w B l sl G):∃ (a:Option Addr) (n c:Nat),sl = .slice a n c ∧ n ≤ c ∧ c ≤ maxLen ∧ (a = none → c = 0) ∧ n = l.length ∧
  ((a = none ∧ Dt.of l = .nil ∧ n = 0 ∧ obl sl ++ G = []) ∨ ∃ p G',a = some ⟨p,0,none⟩ ∧ obl sl ++ G = p :: G' ∧ OwIn w (Dt.of l) size p 0 n G'):=by
 obtain ⟨xss,hr,hol,hx⟩:=h.row
 have hr2:=hr
 obtain ⟨h1,h2⟩:=hr
 rcases h2 with ⟨rfl,h3⟩ | ⟨g,cap,cur,rfl,hg,hh,hnc,hcm,r⟩
 ·have hl0:l = []:=List.eq_nil_of_length_eq_zero h3
  subst hl0
  have hG:G = []:=by
   cases xss with
   | nil => exact hol.2
   | cons a b => exact absurd hol.1 (by simp)
  subst hG
  exact ⟨none,0,0,rfl,Nat.le_refl _,Nat.zero_le _,fun _ => rfl,rfl,.inl ⟨rfl,rfl,rfl,rfl⟩⟩
 ·refine ⟨_,_,_,rfl,hnc,hcm,(fun e => by cases e),rfl,.inr ⟨g,G,rfl,rfl,?_⟩⟩
  refine OwL.shut l xss G 0 hol hx (fun i u hu => ?_)
  have hi:i < l.length * size:=by
   have:=(List.getElem?_eq_some_iff.1 hu).1
   rw [h1] at this
   exact this
  rw [Nat.zero_add]
  rw [World.ownsRow.cellAt hr2 i (by first | exact hi | omega)]
  exact hu
def Fr.els (F:Fr):List Dt:=F.ds ++ (match F.pn with | some (nm,l,c) => [fldD nm zeroD l c] | none => [])
def Fr.T (F:Fr):TypeId:=if F.ob then 59 else 33
def Fr.sz (F:Fr):Nat:=if F.ob then 10 else 7
def Fr.cells (F:Fr) (sl:Value):List Value:=if F.ob then [.int .i64 9,.string em,.bool false,.slice none 0 0,sl,.int .i64 F.ln,.int .i64 F.co] else [.int .i64 8,.string em,.bool false,sl,.slice none 0 0,.int .i64 F.ln,.int .i64 F.co]
theorem Fr.cells_7 (F:Fr) (sl:Value):(F.cells sl).length = 7:=by unfold Fr.cells;split <;> rfl
structure FrAt (w:World) (base:Nat) (F:Fr) (cs:List Value) (G:List Nat):Prop where
 ex:∃ sl G',cs = F.cells sl ∧ Grow F.T F.sz w base F.els sl G' ∧ G = obl sl ++ G'
theorem FrAt.keep {w w':World} {base:Nat} {F:Fr} {cs:List Value} {G:List Nat} (h:FrAt w base F cs G) (hs:w.heap.size ≤ w'.heap.size) (hb:∀ b ∈ G,w'.heap[b]? = w.heap[b]?):FrAt w' base F cs G:=by
 obtain ⟨sl,G',h1,h2,rfl⟩:=h.ex
 exact ⟨sl,G',h1,Grow.keepF h2 hs hb,rfl⟩
theorem FrAt.rng {w:World} {base:Nat} {F:Fr} {cs:List Value} {G:List Nat} (h:FrAt w base F cs G):(∀ b ∈ G,base ≤ b ∧ b < w.heap.size) ∧ G.Nodup ∧ cs.length = 7:=by
 obtain ⟨sl,G',rfl,h2,rfl⟩:=h.ex
 exact ⟨(Grow.rngF h2).1,(Grow.rngF h2).2,F.cells_7 sl⟩
theorem FrAt.done {w:World} {base:Nat} {F:Fr} {cs:List Value} {G:List Nat} (h:FrAt w base F cs G) (hp:F.pn = none):Ow w (F.lit F.ds) cs G ∧ LShape cs:=by
 obtain ⟨sl,G',rfl,h2,rfl⟩:=h.ex
 have he:F.els = F.ds:=by unfold Fr.els;rw [hp];simp
 rw [he] at h2
 obtain ⟨a,n,c,rfl,h3,h4,h5,h6,h7⟩:=Grow.shutF h2
 unfold Fr.cells Fr.lit
 unfold Fr.sz at h7
 cases ho:F.ob with
 | false =>
  rw [ho] at h7
  simp only [Bool.false_eq_true,if_false] at h7 ⊢
  refine ⟨?_,⟨_,_,_,_,_,_,_,_,_,_,_,rfl⟩⟩
  unfold litD
  unfold Ow
  refine ⟨_,rfl,rfl,?_⟩
  unfold Ow
  refine ⟨_,rfl,rfl,?_⟩
  unfold Ow
  refine ⟨_,rfl,rfl,?_⟩
  unfold Ow
  refine ⟨a,n,c,_,_,[],rfl,h3,h4,h5,h7,?_,by simp⟩
  unfold Ow
  refine ⟨none,0,0,_,[],[],rfl,Nat.le_refl _,Nat.zero_le _,fun _ => rfl,.inl ⟨rfl,rfl,rfl,rfl⟩,pos_ow _ _ _,rfl⟩
 | true =>
  rw [ho] at h7
  simp only [if_true] at h7 ⊢
  refine ⟨?_,⟨_,_,_,_,_,_,_,_,_,_,_,rfl⟩⟩
  unfold litD
  unfold Ow
  refine ⟨_,rfl,rfl,?_⟩
  unfold Ow
  refine ⟨_,rfl,rfl,?_⟩
  unfold Ow
  refine ⟨_,rfl,rfl,?_⟩
  unfold Ow
  refine ⟨none,0,0,_,[],_,rfl,Nat.le_refl _,Nat.zero_le _,fun _ => rfl,.inl ⟨rfl,rfl,rfl,rfl⟩,?_,rfl⟩
  unfold Ow
  exact ⟨a,n,c,_,_,[],rfl,h3,h4,h5,h7,pos_ow _ _ _,by simp⟩
def Stk (w:World) (base:Nat):List Fr → List (List Value) → List Nat → Prop
 | [],rows,G => rows = [] ∧ G = []
 | F :: S,rows,G => ∃ cs rs G1 G2,rows = cs :: rs ∧ G = G1 ++ G2 ∧ FrAt w base F cs G1 ∧ Stk w base S rs G2
theorem Stk.keep {w w':World} {base:Nat} (hs:w.heap.size ≤ w'.heap.size):∀ {S:List Fr} {rows:List (List Value)} {G:List Nat},Stk w base S rows G → (∀ b ∈ G,w'.heap[b]? = w.heap[b]?) → Stk w' base S rows G
 | [],rows,G,h,_ => h
 | F :: S,rows,G,h,hb => by
  obtain ⟨cs,rs,G1,G2,rfl,rfl,h1,h2⟩:=h
  exact ⟨cs,rs,G1,G2,rfl,rfl,h1.keep hs (fun b hm => hb b (List.mem_append_left _ hm)),Stk.keep hs h2 (fun b hm => hb b (List.mem_append_right _ hm))⟩
theorem Stk.len {w:World} {base:Nat}:∀ {S:List Fr} {rows:List (List Value)} {G:List Nat},Stk w base S rows G → rows.length = S.length ∧ (∀ r ∈ rows,r.length = 7) ∧ ∀ b ∈ G,base ≤ b ∧ b < w.heap.size
 | [],rows,G,h => by obtain ⟨rfl,rfl⟩:=h;simp
 | F :: S,rows,G,h => by
  obtain ⟨cs,rs,G1,G2,rfl,rfl,h1,h2⟩:=h
  have h3:=Stk.len h2
  have h4:=h1.rng
  refine ⟨by simp [h3.1],fun r hr => ?_,fun b hb => ?_⟩
  ·rcases List.mem_cons.1 hr with rfl | hr
   ·exact h4.2.2
   ·exact h3.2.1 r hr
  ·rcases List.mem_append.1 hb with hb | hb
   ·exact h4.1 b hb
   ·exact h3.2.2 b hb
structure Mch (w:World) (base:Nat) (stk:Value) (S:List Fr) (rows:List (List Value)) (G:List Nat):Prop where
 st:Stk w base S rows G
 row:w.ownsRow base 33 7 stk S.length rows.reverse.flatten
 nodup:G.Nodup
 out:∀ b ∈ G,stk.ownBlock ≠ some b
theorem Mch.nil (w:World) (base:Nat):Mch w base (.slice none 0 0) [] [] []:=⟨⟨rfl,rfl⟩,World.ownsRow_nil _ _ _ _,List.nodup_nil,by simp⟩
theorem Mch.keep {w w':World} {base:Nat} {stk:Value} {S:List Fr} {rows:List (List Value)} {G:List Nat} (h:Mch w base stk S rows G) (hs:w.heap.size ≤ w'.heap.size) (hb:∀ b,b < w.heap.size → base ≤ b → w'.heap[b]? = w.heap[b]?):Mch w' base stk S rows G:=
 ⟨h.st.keep hs (fun b hm => hb b (h.st.len.2.2 b hm).2 (h.st.len.2.2 b hm).1),dt.owns_keep h.row (fun b h1 h2 _ => hb b h1 h2),h.nodup,h.out⟩
theorem Mch.kp {w w':World} {base B:Nat} {stk:Value} {S:List Fr} {rows:List (List Value)} {G:List Nat} (h:Mch w base stk S rows G) (hk:Kp B w w') (hB:B < base):Mch w' base stk S rows G:=h.keep hk.size (fun b h1 h2 => hk.block b h1 (by omega))
theorem Mch.push {w w':World} {base:Nat} {stk stk':Value} {S:List Fr} {rows:List (List Value)} {G:List Nat} (h:Mch w base stk S rows G) (F:Fr) (hF:F.els = []) (hrow:w'.ownsRow base 33 7 stk' (S.length + 1) (rows.reverse.flatten ++ F.cells (.slice none 0 0)))
  (hs:w.heap.size ≤ w'.heap.size) (hold:∀ b,b < w.heap.size → stk.ownBlock ≠ some b → w'.heap[b]? = w.heap[b]?) (hat:∀ b,stk'.ownBlock = some b → stk.ownBlock = some b ∨ w.heap.size ≤ b):Mch w' base stk' (F :: S) (F.cells (.slice none 0 0) :: rows) G:=by
 have hl:=h.st.len
 refine ⟨⟨_,_,[],G,rfl,rfl,⟨.slice none 0 0,[],rfl,by rw [hF];exact Grow.nil,rfl⟩,h.st.keep hs (fun b hm => hold b (hl.2.2 b hm).2 (h.out b hm))⟩,by simpa using hrow,h.nodup,fun b hm e => ?_⟩
 rcases hat b e with e1 | e1
 ·exact h.out b hm e1
 ·have:=(hl.2.2 b hm).2;omega
theorem Mch.top {w:World} {base:Nat} {stk:Value} {F:Fr} {S:List Fr} {rows:List (List Value)} {G:List Nat} (h:Mch w base stk (F :: S) rows G):∃ g cap cs rs G1 G2,stk = .slice (some ⟨g,0,none⟩) (S.length + 1) cap ∧ S.length + 1 ≤ cap ∧ base ≤ g ∧ g < w.heap.size ∧ rows = cs :: rs ∧ G = G1 ++ G2 ∧ FrAt w base F cs G1 ∧ Stk w base S rs G2 ∧ RowAt w g (S.length * 7) cs ∧ w.there g (S.length * 7) 7 ∧ rs.reverse.flatten.length = S.length * 7:=by
 obtain ⟨cs,rs,G1,G2,rfl,rfl,h1,h2⟩:=h.st
 have hr:=h.row
 have hc7:=h1.rng.2.2
 have hrs:rs.reverse.flatten.length = S.length * 7:=by
  have:=h2.len
  rw [← this.1]
  have:∀ l:List (List Value),(∀ r ∈ l,r.length = 7) → l.flatten.length = l.length * 7:=fun l hl => by
   induction l with
   | nil => rfl
   | cons a l ih => rw [List.flatten_cons,List.length_append,ih (fun r hr => hl r (by simp [hr])),hl a (by simp),List.length_cons];omega
  rw [this _ (fun r hr => h2.len.2.1 r (by simpa using hr))]
  simp
 rw [List.reverse_cons,List.flatten_append] at hr
 obtain ⟨hl,h3⟩:=hr
 rcases h3 with ⟨_,h0⟩ | ⟨g,cap,cur,e,hg,hh,hnc,hcm,hcs,hx⟩
 ·simp at h0
 have hr2:w.ownsRow base 33 7 (.slice (some ⟨g,0,none⟩) (S.length + 1) cap) (S.length + 1) (rs.reverse.flatten ++ [cs].flatten):=⟨hl,.inr ⟨g,cap,cur,rfl,hg,hh,hnc,hcm,hcs,hx⟩⟩
 have hgl:g < w.heap.size:=by rcases Nat.lt_or_ge g w.heap.size with h | h;exact h;rw [Array.getElem?_eq_none h] at hh;cases hh
 have hRow:RowAt w g (S.length * 7) cs:=fun i u hu => by
  have hi:=(List.getElem?_eq_some_iff.1 hu).1
  rw [World.ownsRow.cellAt hr2 (S.length * 7 + i) (by omega),List.getElem?_append_right (by omega),hrs,show S.length * 7 + i - S.length * 7 = i by omega]
  simpa using hu
 refine ⟨g,cap,cs,rs,G1,G2,e,hnc,hg,hgl,rfl,rfl,h1,h2,hRow,fun j hj => ?_,hrs⟩
 have hi:j < cs.length:=by omega
 have:=hRow j _ (List.getElem?_eq_getElem hi)
 exact ⟨by rw [this];rfl,World.ownsRow.frozenAt hr2 _⟩
end Go.Proofs.YtepmbmbnlmbhhaaGreat.cr
namespace Go.Proofs.YtepmbmbnlmbhhaaGreat.cu
open dt (Dt)
theorem stop_kd (c:Cu) (k:Int) (hk:k ≠ 0):(c.stop k).kd ≠ 0:=by
 unfold Cu.stop
 split
 ·exact hk
 ·assumption
theorem stop_dead (c:Cu) (k:Int) (h:c.kd ≠ 0):c.stop k = c:=if_neg h
def Faults {A:Type} (E:Cu → Option A × Cu) (b:Nat):Prop:=∀ c,c.Ok → c.ts.length ≤ b + c.ix → (E c).1 = none → (E c).2.kd ≠ 0
theorem brkF_faults {E:Cu → Option Dt × Cu} (hG:Goes E) (b:Nat) (hE:Faults E b) (right:ByteArray) (least:Nat):∀ (g:Nat) (l:List Dt) (c:Cu),c.Ok → c.ts.length ≤ b + c.ix → c.ts.length ≤ g + c.ix → (brkF E right least g l c).1 = none → (brkF E right least g l c).2.kd ≠ 0
 | 0,l,c,h,hb,hg,hn => by have:=h.lt;omega
 | g + 1,l,c,h,hb,hg,hn => by
  simp only [brkF] at hn ⊢
  split
  ·rename_i hc
   rw [if_pos hc] at hn
   cases hq:(E c).1 with
   | none => exact hE c h hb hq
   | some d =>
    rw [hq] at hn
    have h1:=hG c h
    have h2:=h1.2 (by rw [hq];rfl)
    exact brkF_faults hG b hE right least g _ _ h1.1.ok (by rw [h1.1.ts];omega) (by rw [h1.1.ts];omega) hn
  ·rename_i hc
   rw [if_neg hc] at hn
   cases hn
theorem opn_kd {c:Cu} {p:ByteArray} (h:c.opB p = false):(c.opn p).kd ≠ 0:=by
 unfold Cu.opB at h
 unfold Cu.opn
 split
 ·rename_i hp
  rw [hp] at h
  simp only [Bool.true_and,decide_eq_false_iff_not] at h
  rw [if_neg h]
  exact stop_kd _ _ (by decide)
 ·exact stop_kd _ _ (by decide)
theorem brk_faults {E:Cu → Option Dt × Cu} (hG:Goes E) (b:Nat) (hE:Faults E b) (left right:ByteArray) (least:Nat) (c:Cu) (h:c.Ok) (hb:c.ts.length ≤ b + 1 + c.ix) (hn:(brk E left right least c).1 = none):(brk E left right least c).2.kd ≠ 0:=by
 unfold brk at hn ⊢
 have ho:=opn_stp h left
 split
 ·rename_i hB
  rw [if_pos hB] at hn
  have hx:=opn_ix hB
  exact brkF_faults hG b hE right least c.ts.length [] _ ho.ok (by rw [ho.ts,hx];omega) (by rw [ho.ts];omega) hn
 ·rename_i hB
  exact opn_kd (by simpa using hB)
theorem argS_faults {L:Cu → Option Dt × Cu} (b:Nat) (hL:Faults L b):Faults (argS L) b:=by
 intro c h hb hn
 have h1:=name_stp h
 have h2:=want_stp h1.ok bCol
 have h3:=h1.trans h2
 unfold argS at hn ⊢
 cases hq:(L (c.name.want bCol)).1 with
 | none => exact hL _ h3.ok (by rw [h3.ts];have:=h3.ix;omega) hq
 | some v => rw [hq] at hn;cases hn
theorem name_kd {c:Cu} (h:c.isN = false):c.name.kd ≠ 0:=by
 unfold Cu.name
 rw [h]
 exact stop_kd _ _ (by decide)
theorem litF_faults (ct:Bool):∀ f,Faults (litF ct f) f
 | 0 => fun c h hb => by have:=h.lt;omega
 | f + 1 => by
  intro c h hb hn
  have ih:=litF_faults ct f
  change (litS (litF ct f) ct c).1 = none at hn
  show (litS (litF ct f) ct c).2.kd ≠ 0
  unfold litS at hn ⊢
  split
  ·assumption
  rename_i h0
  rw [if_neg h0] at hn
  split
  ·rename_i h1;rw [if_pos h1] at hn;cases hn
  rename_i h1;rw [if_neg h1] at hn
  split
  ·rename_i h2;rw [if_pos h2] at hn;cases hn
  rename_i h2;rw [if_neg h2] at hn
  split
  ·rename_i h3;rw [if_pos h3] at hn;cases hn
  rename_i h3;rw [if_neg h3] at hn
  split
  ·rename_i h4;rw [if_pos h4] at hn;cases hn
  rename_i h4;rw [if_neg h4] at hn
  split
  ·rename_i h5
   rw [if_pos h5] at hn
   unfold varS at hn ⊢
   split
   ·rename_i h6;rw [if_pos h6] at hn;cases hn
   ·rename_i h6
    exact name_kd (by simpa using h6)
  rename_i h5;rw [if_neg h5] at hn
  split
  ·rename_i h6
   rw [if_pos h6] at hn
   unfold listS at hn ⊢
   cases hq:(brk (litF ct f) bLb bRb 0 c).1 with
   | none => exact brk_faults (litF_goes ct f) f ih bLb bRb 0 c h (by omega) hq
   | some l => rw [hq] at hn;cases hn
  rename_i h6;rw [if_neg h6] at hn
  split
  ·rename_i h7
   rw [if_pos h7] at hn
   unfold objS at hn ⊢
   cases hq:(brk (argS (litF ct f)) bLc bRc 0 c).1 with
   | none => exact brk_faults (argS_goes (litF_goes ct f)) f (argS_faults f ih) bLc bRc 0 c h (by omega) hq
   | some l => rw [hq] at hn;cases hn
  ·exact stop_kd _ _ (by decide)
mutual
def fvD:Dt → Option (Int × Int)
 | .val (.int .i64 k) (.val _ (.val _ (.lst _ its (.lst _ fls (.val (.int .i64 ln) (.val (.int .i64 co) _)))))) => if k = 1 then some (ln,co) else (fvL its).or (fvG fls)
 | _ => none
def fvL:Dt → Option (Int × Int)
 | .row e r => (fvD e).or (fvL r)
 | _ => none
def fvG:Dt → Option (Int × Int)
 | .row (.val _ v) r => (fvD v).or (fvG r)
 | _ => none
end
def IsLit:Nat → Dt → Prop
 | 0,_ => False
 | f + 1,d => ∃ k tx bl its fls ln co,d = litD k tx bl (Dt.of its) (Dt.of fls) ln co ∧ (∀ x ∈ its,IsLit f x) ∧ (∀ y ∈ fls,∃ nm v ln co,y = fldD nm v ln co ∧ IsLit f v)
theorem brkF_all {E:Cu → Option Dt × Cu} {p:Dt → Prop} (hE:∀ c d,(E c).1 = some d → p d) (right:ByteArray) (least:Nat):∀ (g:Nat) (l:List Dt) (c:Cu) (l':List Dt),(∀ d ∈ l,p d) → (brkF E right least g l c).1 = some l' → ∀ d ∈ l',p d
 | 0,l,c,l',_,h => by simp [brkF] at h
 | g + 1,l,c,l',hl,h => by
  simp only [brkF] at h
  split at h
  ·cases hq:(E c).1 with
   | none => rw [hq] at h;cases h
   | some d =>
    rw [hq] at h
    exact brkF_all hE right least g (l ++ [d]) _ l' (fun x hx => by
     rcases List.mem_append.1 hx with hx | hx
     ·exact hl x hx
     ·simp at hx;subst hx;exact hE c x hq) h
  ·simp at h;subst h;exact hl
theorem brk_all {E:Cu → Option Dt × Cu} {p:Dt → Prop} (hE:∀ c d,(E c).1 = some d → p d) (left right:ByteArray) (least:Nat) (c:Cu) (l':List Dt) (h:(brk E left right least c).1 = some l'):∀ d ∈ l',p d:=by
 unfold brk at h
 split at h
 ·exact brkF_all hE right least _ _ _ l' (fun d hd => by cases hd) h
 ·cases h
theorem leaf_lit (f:Nat) (k:Int) (tx:ByteArray) (bl:Bool) (ln co:Int):IsLit (f + 1) (litD k tx bl .nil .nil ln co):=⟨k,tx,bl,[],[],ln,co,rfl,(fun x hx => by cases hx),(fun x hx => by cases hx)⟩
theorem litF_lit (ct:Bool):∀ (f:Nat) (c:Cu) (d:Dt),(litF ct f c).1 = some d → IsLit f d
 | 0,c,d,h => by cases h
 | f + 1,c,d,h => by
  change (litS (litF ct f) ct c).1 = some d at h
  unfold litS at h
  split at h
  ·cases h
  split at h
  ·simp at h;subst h;exact leaf_lit ..
  split at h
  ·simp at h;subst h;exact leaf_lit ..
  split at h
  ·simp at h;subst h;exact leaf_lit ..
  split at h
  ·simp at h;subst h
   unfold wordD
   split
   ·exact leaf_lit ..
   ·split <;> exact leaf_lit ..
  split at h
  ·unfold varS at h
   split at h
   ·simp at h;subst h;exact leaf_lit ..
   ·cases h
  split at h
  ·unfold listS at h
   cases hq:(brk (litF ct f) bLb bRb 0 c).1 with
   | none => rw [hq] at h;cases h
   | some l =>
    rw [hq] at h
    simp at h
    subst h
    exact ⟨_,_,_,l,[],_,_,rfl,brk_all (fun c d hd => litF_lit ct f c d hd) bLb bRb 0 c l hq,(fun x hx => by cases hx)⟩
  split at h
  ·unfold objS at h
   cases hq:(brk (argS (litF ct f)) bLc bRc 0 c).1 with
   | none => rw [hq] at h;cases h
   | some l =>
    rw [hq] at h
    simp at h
    subst h
    refine ⟨_,_,_,[],l,_,_,rfl,(fun x hx => by cases hx),brk_all (p:=fun y => ∃ nm v ln co,y = fldD nm v ln co ∧ IsLit f v) (fun c d hd => ?_) bLc bRc 0 c l hq⟩
    unfold argS at hd
    cases hq2:(litF ct f (c.name.want bCol)).1 with
    | none => rw [hq2] at hd;cases hd
    | some v =>
     rw [hq2] at hd
     simp at hd
     subst hd
     exact ⟨_,v,_,_,rfl,litF_lit ct f _ v hq2⟩
  ·cases h
open Go.ChangeShapes Go.WideShapes Go.ChangeAt Go.RowKit
open ints (Hi uh)
open dt (Dt Kp RowAt)
open mem (Row)
def newG (z:List Int) (d:Int):Cu:=⟨lx.toks z,0,0,mostS d,0⟩
theorem tksG_more (l:List Int) (cl:Bool):∀ (f i:Nat),i ≤ l.length → l.length < f + i → ∀ j t,(lx.tksGF l cl f i)[j]? = some t → t.k = 0 ∨ t.k = 1 ∨ j + 1 < (lx.tksGF l cl f i).length
 | 0,i,hi,hf,j,t,h => by simp [lx.tksGF] at h
 | f + 1,i,hi,hf,j,t,h => by
  by_cases he:(lx.tkG l cl i).k = 0 ∨ (lx.tkG l cl i).k = 1
  ·rw [lx.tksGF,if_pos he] at h
   cases j with
   | zero => simp at h;subst h;rcases he with e | e;exact .inl e;exact .inr (.inl e)
   | succ j => simp at h
  ·rw [lx.tksGF,if_neg he] at h ⊢
   have h2:=lx.tkG_le l cl i hi
   have h3:i < (lx.tkG l cl i).to:=by
    rcases h2.2.2 with e | e | e
    ·exact absurd (.inl e) he
    ·exact absurd (.inr e) he
    ·exact e
   cases j with
   | zero =>
    right;right
    cases f with
    | zero => omega
    | succ f =>
     rw [lx.tksGF]
     split <;> simp
   | succ j =>
    have:=tksG_more l cl f (lx.tkG l cl i).to h2.2.1 (by omega) j t (by simpa using h)
    simpa using this
theorem tksGF_len (l:List Int) (cl:Bool):∀ (f i:Nat),i ≤ l.length → (lx.tksGF l cl f i).length ≤ l.length + 1 - i
 | 0,i,hi => by simp [lx.tksGF]
 | f + 1,i,hi => by
  by_cases he:(lx.tkG l cl i).k = 0 ∨ (lx.tkG l cl i).k = 1
  ·rw [lx.tksGF,if_pos he];simp;omega
  ·rw [lx.tksGF,if_neg he]
   have h2:=lx.tkG_le l cl i hi
   have h3:i < (lx.tkG l cl i).to:=by
    rcases h2.2.2 with e | e | e
    ·exact absurd (.inl e) he
    ·exact absurd (.inr e) he
    ·exact e
   have:=tksGF_len l cl f (lx.tkG l cl i).to h2.2.1
   simp
   omega
theorem tksG_pos (l:List Int) (cl:Bool) (i:Nat):0 < (lx.tksG l cl i).length:=by
 unfold lx.tksG
 rw [lx.tksGF]
 split <;> simp
theorem newG_ok' (z:List Int) (d:Int):(newG z d).Ok:=
 ⟨tksG_pos _ _ 0,tksG_more (lx.chs z) (lx.cln z) ((lx.chs z).length + 1) 0 (Nat.zero_le _) (by omega),Nat.zero_le _,by unfold newG mostS;simp only;omega⟩
theorem toks_len (z:List Int) (hz:mem.Byt z):(lx.toks z).length ≤ z.length + 1:=by
 have h1:=tksGF_len (lx.chs z) (lx.cln z) ((lx.chs z).length + 1) 0 (Nat.zero_le _)
 have h2:=Nat.le_trans (mem.decZ_len z hz) (mem.decZ_le z hz)
 show (lx.tksGF (lx.chs z) (lx.cln z) ((lx.chs z).length + 1) 0).length ≤ _
 have h3:(lx.chs z).length ≤ z.length:=h2
 omega
theorem newG_ok (a:Option Addr) (n c:Nat) (l:List Int) (d:Int) (w:World) (h:Row .u8 w a n c l) (hn:n ≤ 1099511627776) (hz:mem.Byt l) (hd:(Lit.int .i64 d).wf = true) :
  Calls Tryz.prog 12 #[.slice a n c,.int .i64 d] w fun e w' => ∃ B p,e = .returned (ptr B) ∧ w.heap.size ≤ B ∧ w.heap.size ≤ p ∧ CurAt w' B p (newG l d) ∧ Below w.heap.size w w':=by
 have hT:=Hi (fun W (bb:Below w.heap.size w W) => lx.tokensG_ok a n c l W (h.below bb) hn hz)
 have hok:=Hi (newG_ok' l d)
 have hlen:=toks_len l hz
 rw [h.len] at hlen
 go_enter Tryz.func12,Tryz.ntmps12
 go_wp2_with fail
 refine ((uh hT) w (Below.refl _ _)).mono ?_
 rintro e w1 ⟨p,cap,rfl,hp1,hp2,hrows,b1⟩
 have HR:=Hi hrows
 clear hT hrows
 go_wp2_with fail
 go_ret
 have hmo:(max 0 (min d 200)) = ((mostS d:Nat):Int):=by unfold mostS;omega
 rw [hmo]
 have bX:∀ o,Below w1.heap.size w1 (w1.alloc o):=fun o => ba
 refine ⟨w1.heap.size,p,rfl,b1.size,hp1,⟨uh hok,?_,cap,heap_alloc_new w1 _,by omega,?_,fun i t ht => ((uh HR) i t ht).below (bX _)⟩,b1.alloc b1.size _⟩
 ·show (lx.toks l).length ≤ _
  omega
 ·simp;omega
open dt (Dt Kp RowAt Ow Grow)
def readLG (l:List Int) (ct:Bool) (d:Int):Option Dt × Cu:=
 if (litF ct (lx.toks l).length (newG l d)).1.isSome then (if (litF ct (lx.toks l).length (newG l d)).2.finB then (litF ct (lx.toks l).length (newG l d)).1 else none,(litF ct (lx.toks l).length (newG l d)).2.fin) else (none,(litF ct (lx.toks l).length (newG l d)).2)
set_option maxRecDepth 4000 in
set_option maxHeartbeats 2000000 in
theorem readLitG_ok (a:Option Addr) (n c:Nat) (l:List Int) (ct:Bool) (d:Int) (w:World) (h:Row .u8 w a n c l) (hn:n ≤ 1099511627776) (hz:mem.Byt l) (hd:(Lit.int .i64 d).wf = true) :
  Calls Tryz.prog 6 #[.slice a n c,.bool ct,.int .i64 d] w fun e w' => ∃ cs F fs,e = .returned (.tuple #[.agg cs.toArray,.agg fs.toArray]) ∧ LitPost ((readLG l ct d).1.getD zeroD) w w' cs F ∧ FltAt w.heap.size w' (readLG l ct d).2 fs ∧ Below w.heap.size w w':=by
 have hN:=Hi (fun W (bb:Below w.heap.size w W) => newG_ok a n c l d W (h.below bb) hn hz hd)
 have hok:=newG_ok' l d
 have hlen:(newG l d).ts.length ≤ 1099511627777:=by
  have:=toks_len l hz
  show (lx.toks l).length ≤ _
  rw [h.len] at this
  omega
 have hT:=Hi (litF_ok ct (lx.toks l).length (newG l d) hok hlen (Nat.le_add_right _ _))
 have hg:=Hi (litF_goes ct (lx.toks l).length (newG l d) hok).1
 unfold readLG
 obtain ⟨U,hU⟩:∃ U,U = litF ct (lx.toks l).length (newG l d):=⟨_,rfl⟩
 unfold LitAt at hT
 rw [← hU] at hT hg ⊢
 obtain ⟨c0,hc0⟩:∃ c0,c0 = newG l d:=⟨_,rfl⟩
 rw [← hc0] at hN hT hg
 clear h hU hok hlen hc0
 obtain ⟨r,C⟩:=U
 go_enter Tryz.func6,Tryz.ntmps6
 go_wp2_with fail
 have bW0:Below w.heap.size w ((w.alloc (.cells #[Value.int .i64 0,.string { data:=#[] },.bool false,.slice none 0 0,.slice none 0 0,.int .i64 0,.int .i64 0] 33)).alloc (.cells #[Value.int .i64 0,.slice none 0 0,.slice none 0 0] 38)):=(ba).alloc (by simp) _
 have hR1:((w.alloc (.cells #[Value.int .i64 0,.string { data:=#[] },.bool false,.slice none 0 0,.slice none 0 0,.int .i64 0,.int .i64 0] 33)).alloc (.cells #[Value.int .i64 0,.slice none 0 0,.slice none 0 0] 38)).heap[w.heap.size]? = some (.cells #[Value.int .i64 0,.string { data:=#[] },.bool false,.slice none 0 0,.slice none 0 0,.int .i64 0,.int .i64 0] 33 (0,0)):=(Below.heap_alloc _ _ w.heap.size (by simp)).trans (heap_alloc_new w _)
 have hR2:((w.alloc (.cells #[Value.int .i64 0,.string { data:=#[] },.bool false,.slice none 0 0,.slice none 0 0,.int .i64 0,.int .i64 0] 33)).alloc (.cells #[Value.int .i64 0,.slice none 0 0,.slice none 0 0] 38)).heap[w.heap.size + 1]? = some (.cells #[Value.int .i64 0,.slice none 0 0,.slice none 0 0] 38 (0,0)):=by
  have:=heap_alloc_new (w.alloc (.cells #[Value.int .i64 0,.string { data:=#[] },.bool false,.slice none 0 0,.slice none 0 0,.int .i64 0,.int .i64 0] 33)) (.cells #[Value.int .i64 0,.slice none 0 0,.slice none 0 0] 38)
  simpa using this
 have hz0:w.heap.size + 1 < ((w.alloc (.cells #[Value.int .i64 0,.string { data:=#[] },.bool false,.slice none 0 0,.slice none 0 0,.int .i64 0,.int .i64 0] 33)).alloc (.cells #[Value.int .i64 0,.slice none 0 0,.slice none 0 0] 38)).heap.size:=by simp
 obtain ⟨W0,hW0⟩:∃ W0,W0 = (w.alloc (.cells #[Value.int .i64 0,.string { data:=#[] },.bool false,.slice none 0 0,.slice none 0 0,.int .i64 0,.int .i64 0] 33)).alloc (.cells #[Value.int .i64 0,.slice none 0 0,.slice none 0 0] 38):=⟨_,rfl⟩
 rw [← hW0] at bW0 hR1 hR2 hz0 ⊢
 clear hW0
 refine ((uh hN) W0 bW0).mono ?_
 rintro e w1 ⟨B,p,rfl,hB,hp0,hc1,b1⟩
 have hTB:=Hi ((uh hT) B p)
 have hend:=Hi (fun W (hc:CurAt W B p C) => end_ok B p C W hc)
 have htold:=Hi (fun W (D:Cu) (hc:CurAt W B p D) => told_ok B p D W hc)
 clear hN hT
 unfold ptr at hTB hend htold ⊢
 go_wp2_with fail
 refine ((uh hTB) w1 hc1).mono ?_
 rintro e w2 ⟨cs,F,rfl,hpo,hc2,hk2⟩
 obtain ⟨kk,tt,bl,ai,ni,ci,af,nf,cf,ln,co,rfl⟩:=hpo.shape
 have HP:=Hi hpo
 have hrF:∀ b ∈ F,W0.heap.size ≤ b ∧ b < w2.heap.size:=fun b hb => ⟨Nat.le_trans b1.size (hpo.rng b hb).1,(hpo.rng b hb).2⟩
 clear hpo
 have hB1:=hc1.lt
 have b02:Below W0.heap.size W0 w2:=b1.trans (hk2.below hB b1.size)
 have HC2:=Hi hc2
 clear hTB hc1 hc2 hk2 b1
 have bA2:=Hi (fun o => show Below w2.heap.size w2 (w2.alloc o) from ba)
 cases r with
 | none =>
  go_wp2_with fail
  have bT:=b02.alloc b02.size (.cells #[.int .i64 kk,.string tt,.bool bl,.slice ai ni ci,.slice af nf cf,.int .i64 ln,.int .i64 co] 33)
  refine ((uh htold) _ C ((uh HC2).below ((uh bA2) _))).mono ?_
  rintro e w5 ⟨fs,rfl,hflt,b5⟩
  have b05:Below W0.heap.size W0 w5:=bT.trans (b5.mono bT.size)
  have hne12:w.heap.size ≠ w.heap.size + 1:=by omega
  have HT1:=Hi (show w5.there w.heap.size 0 7 from dt.there_cells ((b05.block w.heap.size (by omega)).trans hR1) (by decide))
  have HT2:=Hi (show w5.there (w.heap.size + 1) 0 fs.length from by rw [hflt.three.1];exact dt.there_cells ((b05.block (w.heap.size + 1) hz0).trans hR2) (by decide))
  have HX0:=res2 hne12 [.int .i64 0,.string ⟨#[]⟩,.bool false,.slice none 0 0,.slice none 0 0,.int .i64 0,.int .i64 0] fs (uh HT1) (uh HT2)
  obtain ⟨W6,e6⟩:∃ W6,W6 = w5.setCells w.heap.size 0 (#[.int .i64 0,.string ⟨#[]⟩,.bool false,.slice none 0 0,.slice none 0 0,.int .i64 0,.int .i64 0]:Array Value).toList:=⟨_,rfl⟩
  have HX:=Hi (show W6.there (w.heap.size + 1) 0 _ ∧ (W6.setCells (w.heap.size + 1) 0 fs).rangeAt w.heap.size 0 [.int .i64 0,.string ⟨#[]⟩,.bool false,.slice none 0 0,.slice none 0 0,.int .i64 0,.int .i64 0] ∧ (W6.setCells (w.heap.size + 1) 0 fs).rangeAt (w.heap.size + 1) 0 fs from by rw [e6];exact HX0)
  have E6:=Hi e6
  clear HX0 e6
  have HI:=Hi (show (Tryz.prog.info? 38).map (·.size) = some fs.length from by rw [hflt.three.1];exact infoFl)
  have HO:=Hi (dt.one_cells hflt.three.2)
  have HF:=Hi hflt
  have hbw:=Hi (bW0.trans (b05.mono bW0.size))
  have hlo:=Hi (show w.heap.size + 1 < _ ∧ w.heap.size < _ from And.intro (Nat.lt_of_lt_of_le hz0 bT.size) (Nat.lt_of_lt_of_le (Nat.lt_of_succ_lt hz0) bT.size))
  clear b05 b5 htold hflt
  go_wp2_with (first
   | (refine wpList_store_mid (by rfl) 33 _ _ (by rfl) w.heap.size 0 #[.int .i64 0,.string ⟨#[]⟩,.bool false,.slice none 0 0,.slice none 0 0,.int .i64 0,.int .i64 0] (by rfl) (by rfl) (uh HT1) infoLt (dt.one_cells (cs:=[.int .i64 0,.string ⟨#[]⟩,.bool false,.slice none 0 0,.slice none 0 0,.int .i64 0,.int .i64 0]) (by rfl)) ?_;rw [← uh E6])
   | refine wpList_store_mid (by rfl) 38 _ _ (by rfl) (w.heap.size + 1) 0 fs.toArray (by rfl) (by rfl) (by have:=(uh HX).1;simpa using this) (by have:=uh HI;simpa using this) (uh HO) ?_)
  refine bodyPost_ret (result_rows2 rfl _ _ w.heap.size 0 [.int .i64 0,.string ⟨#[]⟩,.bool false,.slice none 0 0,.slice none 0 0,.int .i64 0,.int .i64 0] _ rfl (uh HX).2.1 Tryz.underlying33 rfl infoLt (w.heap.size + 1) 0 fs _ rfl (uh HX).2.2 Tryz.underlying38 rfl (uh HI)) rfl ?_
  have e6:=uh E6
  subst e6
  refine ⟨_,[],_,rfl,⟨leaf_shape 0 em false 0 0,leaf_ow _ 0 em false 0 0,List.nodup_nil,by simp⟩,?_,dt.below_setCells _ _ _ _ (dt.below_setCells _ _ _ _ (uh hbw) (Nat.le_refl _)) (Nat.le_add_right _ 1)⟩
  exact (((uh HF).out (uh hlo).2 _ _).out (uh hlo).1 _ _).mono (Nat.le_of_lt (uh hlo).2)
 | some it =>
  cases hF:C.finB
  ·rw [hF] at hend
   go_wp2_with fail
   refine ((uh hend) _ ((uh HC2).below ((uh bA2) _))).mono ?_
   rintro e w3 ⟨rfl,hc3,hk3⟩
   have bT:Below W0.heap.size W0 w3:=(b02.alloc b02.size _).trans (hk3.below hB (Nat.le_trans b02.size ((uh bA2) _).size))
   go_wp2_with fail
   refine ((uh htold) _ C.fin hc3).mono ?_
   rintro e w5 ⟨fs,rfl,hflt,b5⟩
   have b05:Below W0.heap.size W0 w5:=bT.trans (b5.mono bT.size)
   have hne12:w.heap.size ≠ w.heap.size + 1:=by omega
   have HT1:=Hi (show w5.there w.heap.size 0 7 from dt.there_cells ((b05.block w.heap.size (by omega)).trans hR1) (by decide))
   have HT2:=Hi (show w5.there (w.heap.size + 1) 0 fs.length from by rw [hflt.three.1];exact dt.there_cells ((b05.block (w.heap.size + 1) hz0).trans hR2) (by decide))
   have HX0:=res2 hne12 [.int .i64 0,.string ⟨#[]⟩,.bool false,.slice none 0 0,.slice none 0 0,.int .i64 0,.int .i64 0] fs (uh HT1) (uh HT2)
   obtain ⟨W6,e6⟩:∃ W6,W6 = w5.setCells w.heap.size 0 (#[.int .i64 0,.string ⟨#[]⟩,.bool false,.slice none 0 0,.slice none 0 0,.int .i64 0,.int .i64 0]:Array Value).toList:=⟨_,rfl⟩
   have HX:=Hi (show W6.there (w.heap.size + 1) 0 _ ∧ (W6.setCells (w.heap.size + 1) 0 fs).rangeAt w.heap.size 0 [.int .i64 0,.string ⟨#[]⟩,.bool false,.slice none 0 0,.slice none 0 0,.int .i64 0,.int .i64 0] ∧ (W6.setCells (w.heap.size + 1) 0 fs).rangeAt (w.heap.size + 1) 0 fs from by rw [e6];exact HX0)
   have E6:=Hi e6
   clear HX0 e6
   have HI:=Hi (show (Tryz.prog.info? 38).map (·.size) = some fs.length from by rw [hflt.three.1];exact infoFl)
   have HO:=Hi (dt.one_cells hflt.three.2)
   have HF:=Hi hflt
   have hbw:=Hi (bW0.trans (b05.mono bW0.size))
   have hlo:=Hi (show w.heap.size + 1 < _ ∧ w.heap.size < _ from And.intro (Nat.lt_of_lt_of_le hz0 bT.size) (Nat.lt_of_lt_of_le (Nat.lt_of_succ_lt hz0) bT.size))
   clear b05 b5 htold hflt
   go_wp2_with (first
    | (refine wpList_store_mid (by rfl) 33 _ _ (by rfl) w.heap.size 0 #[.int .i64 0,.string ⟨#[]⟩,.bool false,.slice none 0 0,.slice none 0 0,.int .i64 0,.int .i64 0] (by rfl) (by rfl) (uh HT1) infoLt (dt.one_cells (cs:=[.int .i64 0,.string ⟨#[]⟩,.bool false,.slice none 0 0,.slice none 0 0,.int .i64 0,.int .i64 0]) (by rfl)) ?_;rw [← uh E6])
    | refine wpList_store_mid (by rfl) 38 _ _ (by rfl) (w.heap.size + 1) 0 fs.toArray (by rfl) (by rfl) (by have:=(uh HX).1;simpa using this) (by have:=uh HI;simpa using this) (uh HO) ?_)
   refine bodyPost_ret (result_rows2 rfl _ _ w.heap.size 0 [.int .i64 0,.string ⟨#[]⟩,.bool false,.slice none 0 0,.slice none 0 0,.int .i64 0,.int .i64 0] _ rfl (uh HX).2.1 Tryz.underlying33 rfl infoLt (w.heap.size + 1) 0 fs _ rfl (uh HX).2.2 Tryz.underlying38 rfl (uh HI)) rfl ?_
   have e6:=uh E6
   subst e6
   refine ⟨_,[],_,rfl,⟨leaf_shape 0 em false 0 0,leaf_ow _ 0 em false 0 0,List.nodup_nil,by simp⟩,?_,dt.below_setCells _ _ _ _ (dt.below_setCells _ _ _ _ (uh hbw) (Nat.le_refl _)) (Nat.le_add_right _ 1)⟩
   exact (((uh HF).out (uh hlo).2 _ _).out (uh hlo).1 _ _).mono (Nat.le_of_lt (uh hlo).2)
  ·rw [hF] at hend
   go_wp2_with fail
   refine ((uh hend) _ ((uh HC2).below ((uh bA2) _))).mono ?_
   rintro e w3 ⟨rfl,hc3,hk3⟩
   have hI3:=(hk3.block w2.heap.size (by simp) (by have:=(uh HC2).lt;omega)).trans (heap_alloc_new w2 _)
   have b03:Below W0.heap.size W0 w3:=(b02.alloc b02.size _).trans (hk3.below hB (Nat.le_trans b02.size ((uh bA2) _).size))
   have i0:w3.cell? ⟨w2.heap.size,0,none⟩ = some (.int .i64 kk):=(dt.cell_cells hI3 0).trans rfl
   have i1:w3.cell? ⟨w2.heap.size,1,none⟩ = some (.string tt):=(dt.cell_cells hI3 1).trans rfl
   have i2:w3.cell? ⟨w2.heap.size,2,none⟩ = some (.bool bl):=(dt.cell_cells hI3 2).trans rfl
   have i3:w3.cell? ⟨w2.heap.size,3,none⟩ = some (.slice ai ni ci):=(dt.cell_cells hI3 3).trans rfl
   have i4:w3.cell? ⟨w2.heap.size,4,none⟩ = some (.slice af nf cf):=(dt.cell_cells hI3 4).trans rfl
   have i5:w3.cell? ⟨w2.heap.size,5,none⟩ = some (.int .i64 ln):=(dt.cell_cells hI3 5).trans rfl
   have i6:w3.cell? ⟨w2.heap.size,6,none⟩ = some (.int .i64 co):=(dt.cell_cells hI3 6).trans rfl
   have HW3:=Hi (show Ow w3 (it) [.int .i64 kk,.string tt,.bool bl,.slice ai ni ci,.slice af nf cf,.int .i64 ln,.int .i64 co] F from ow_kp (ow_below (uh HP).own ((uh bA2) _) (fun b hb => (hrF b hb).2)) hk3 (Nat.lt_of_lt_of_le (Nat.lt_succ_self B) (Nat.le_refl _)) (fun b hb => ⟨by have h1:=(uh HP).rng b hb;have h2:=hB1;omega,by have:=(hrF b hb).2;simp;omega⟩))
   have hz23:=Hi (show w2.heap.size ≤ w3.heap.size from by have:=hk3.size;simp at this;omega)
   have hne12:w.heap.size ≠ w.heap.size + 1:=by omega
   have HT1:=Hi (show w3.there w.heap.size 0 7 from dt.there_cells ((b03.block w.heap.size (by omega)).trans hR1) (by decide))
   have HT2:=Hi (show w3.there (w.heap.size + 1) 0 3 from dt.there_cells ((b03.block (w.heap.size + 1) hz0).trans hR2) (by decide))
   have HX0:=res2 hne12 [.int .i64 kk,.string tt,.bool bl,.slice ai ni ci,.slice af nf cf,.int .i64 ln,.int .i64 co] [.int .i64 0,.slice none 0 0,.slice none 0 0] (uh HT1) (uh HT2)
   obtain ⟨W6,e6⟩:∃ W6,W6 = w3.setCells w.heap.size 0 (#[.int .i64 kk,.string tt,.bool bl,.slice ai ni ci,.slice af nf cf,.int .i64 ln,.int .i64 co]:Array Value).toList:=⟨_,rfl⟩
   have HX:=Hi (show W6.there (w.heap.size + 1) 0 _ ∧ (W6.setCells (w.heap.size + 1) 0 [.int .i64 0,.slice none 0 0,.slice none 0 0]).rangeAt w.heap.size 0 [.int .i64 kk,.string tt,.bool bl,.slice ai ni ci,.slice af nf cf,.int .i64 ln,.int .i64 co] ∧ (W6.setCells (w.heap.size + 1) 0 [.int .i64 0,.slice none 0 0,.slice none 0 0]).rangeAt (w.heap.size + 1) 0 [.int .i64 0,.slice none 0 0,.slice none 0 0] from by rw [e6];exact HX0)
   have E6:=Hi e6
   clear HX0 e6
   have hfin:=Hi (show C.fin = C ∧ C.kd = 0 from ⟨by unfold Cu.fin;rw [hF];rfl,(of_decide_eq_true hF).1⟩)
   have hbw:=Hi (bW0.trans (b03.mono bW0.size))
   clear hI3 b03 hk3 hc3 hend htold b02 bA2
   go_wp2_with (first
    | (refine wpList_store_mid (by rfl) 33 _ _ (by rfl) w.heap.size 0 #[.int .i64 kk,.string tt,.bool bl,.slice ai ni ci,.slice af nf cf,.int .i64 ln,.int .i64 co] (by rfl) (by rfl) (uh HT1) infoLt (dt.one_cells (cs:=[.int .i64 kk,.string tt,.bool bl,.slice ai ni ci,.slice af nf cf,.int .i64 ln,.int .i64 co]) (by rfl)) ?_;rw [← uh E6])
    | refine wpList_store_mid (by rfl) 38 _ _ (by rfl) (w.heap.size + 1) 0 #[.int .i64 0,.slice none 0 0,.slice none 0 0] (by rfl) (by rfl) (uh HX).1 infoFl (dt.one_cells (cs:=[.int .i64 0,.slice none 0 0,.slice none 0 0]) (by rfl)) ?_)
   refine bodyPost_ret (result_rows2 rfl _ _ w.heap.size 0 [.int .i64 kk,.string tt,.bool bl,.slice ai ni ci,.slice af nf cf,.int .i64 ln,.int .i64 co] _ rfl (uh HX).2.1 Tryz.underlying33 rfl infoLt (w.heap.size + 1) 0 [.int .i64 0,.slice none 0 0,.slice none 0 0] _ rfl (uh HX).2.2 Tryz.underlying38 rfl infoFl) rfl ?_
   have e6:=uh E6
   subst e6
   refine ⟨_,F,_,rfl,⟨⟨kk,tt,bl,ai,ni,ci,af,nf,cf,ln,co,rfl⟩,ow_out (ow_out (uh HW3) (fun hm => by have:=(hrF _ hm).1;omega) _ _) (fun hm => by have:=(hrF _ hm).1;omega) _ _,(uh HP).nodup,fun b hb => ⟨by have:=(hrF b hb).1;have:=bW0.size;omega,by rw [dt.size_setCells,dt.size_setCells];have:=(hrF b hb).2;have:=uh hz23;omega⟩⟩,?_,dt.below_setCells _ _ _ _ (dt.below_setCells _ _ _ _ (uh hbw) (Nat.le_refl _)) (Nat.le_add_right _ 1)⟩
   unfold FltAt
   show (if C.fin.kd = 0 then _ else _)
   rw [(uh hfin).1,if_pos (uh hfin).2]
open dt (Dt Kp RowAt Ow Grow OwIn)
theorem lit_cells {w:World} {k:Int} {tx:ByteArray} {bl:Bool} {its fls:List Dt} {ln co:Int} {cs:List Value} {F:List Nat} (h:Ow w (litD k tx bl (Dt.of its) (Dt.of fls) ln co) cs F) :
  ∃ ai ni ci af nf cf,cs = [.int .i64 k,.string tx,.bool bl,.slice ai ni ci,.slice af nf cf,.int .i64 ln,.int .i64 co] ∧ ni = its.length ∧ nf = fls.length ∧ ni ≤ ci ∧ nf ≤ cf ∧ ci ≤ maxLen ∧ cf ≤ maxLen ∧
   (∀ i e,its[i]? = some e → ∃ p ds G,ai = some ⟨p,0,none⟩ ∧ p ∈ F ∧ RowAt w p (i * 7) ds ∧ ds.length = 7 ∧ Ow w e ds G ∧ ∀ b ∈ G,b ∈ F) ∧
   (∀ i e,fls[i]? = some e → ∃ p ds G,af = some ⟨p,0,none⟩ ∧ p ∈ F ∧ RowAt w p (i * 10) ds ∧ ds.length = 10 ∧ Ow w e ds G ∧ ∀ b ∈ G,b ∈ F):=by
 unfold litD at h
 unfold Ow at h
 obtain ⟨d1,rfl,_,h⟩:=h
 unfold Ow at h
 obtain ⟨d2,rfl,_,h⟩:=h
 unfold Ow at h
 obtain ⟨d3,rfl,_,h⟩:=h
 unfold Ow at h
 obtain ⟨ai,ni,ci,d4,F1,F2,rfl,i1,i2,i3,i4,h,rfl⟩:=h
 unfold Ow at h
 obtain ⟨af,nf,cf,d5,F3,F4,rfl,j1,j2,j3,j4,h,rfl⟩:=h
 unfold Ow at h
 obtain ⟨d6,rfl,_,h⟩:=h
 unfold Ow at h
 obtain ⟨d7,rfl,_,h⟩:=h
 unfold Ow at h
 obtain ⟨rfl,rfl⟩:=h
 have key:∀ (l:List Dt) (k:Nat) (a:Option Addr) (n:Nat) (G0:List Nat),((a = none ∧ Dt.of l = .nil ∧ n = 0 ∧ G0 = []) ∨ ∃ p G,a = some ⟨p,0,none⟩ ∧ G0 = p :: G ∧ OwIn w (Dt.of l) k p 0 n G) → n = l.length ∧ ∀ i e,l[i]? = some e → ∃ p ds G,a = some ⟨p,0,none⟩ ∧ p ∈ G0 ∧ RowAt w p (i * k) ds ∧ ds.length = k ∧ Ow w e ds G ∧ ∀ b ∈ G,b ∈ G0:=by
  intro l k a n G0 h
  rcases h with ⟨_,h2,h3,_⟩ | ⟨p,G,rfl,rfl,h⟩
  ·cases l with
   | nil => exact ⟨h3,fun i e he => by simp at he⟩
   | cons d l => unfold Dt.of at h2;cases h2
  ·obtain ⟨h1,h2⟩:=OwIn.get l k p 0 n G h
   refine ⟨h1.symm,fun i e he => ?_⟩
   obtain ⟨ds,Gi,g1,g2,g3,g4⟩:=h2 i e he
   exact ⟨p,ds,Gi,rfl,by simp,by simpa using g1,g2,g3,fun b hb => by simp [g4 b hb]⟩
 obtain ⟨e1,e2⟩:=key its 7 ai ni F1 i4
 obtain ⟨e3,e4⟩:=key fls 10 af nf F3 j4
 refine ⟨ai,ni,ci,af,nf,cf,rfl,e1,e3,i1,j1,i2,j2,fun i e he => ?_,fun i e he => ?_⟩
 ·obtain ⟨p,ds,G,g1,g2,g3,g4,g5,g6⟩:=e2 i e he
  exact ⟨p,ds,G,g1,by simp [g2],g3,g4,g5,fun b hb => by simp [g6 b hb]⟩
 ·obtain ⟨p,ds,G,g1,g2,g3,g4,g5,g6⟩:=e4 i e he
  exact ⟨p,ds,G,g1,by simp [g2],g3,g4,g5,fun b hb => by simp [g6 b hb]⟩
theorem fld_cells {w:World} {nm:ByteArray} {k:Int} {tx:ByteArray} {bl:Bool} {its fls:Dt} {ln co x y:Int} {cs:List Value} {F:List Nat} (h:Ow w (fldD nm (litD k tx bl its fls ln co) x y) cs F) :
  ∃ ai ni ci af nf cf,cs = [.string nm,.int .i64 k,.string tx,.bool bl,.slice ai ni ci,.slice af nf cf,.int .i64 ln,.int .i64 co,.int .i64 x,.int .i64 y] ∧ Ow w (litD k tx bl its fls ln co) [.int .i64 k,.string tx,.bool bl,.slice ai ni ci,.slice af nf cf,.int .i64 ln,.int .i64 co] F:=by
 unfold fldD litD at h
 simp only [app] at h
 unfold Ow at h
 obtain ⟨d0,rfl,_,h⟩:=h
 unfold Ow at h
 obtain ⟨d1,rfl,a1,h⟩:=h
 unfold Ow at h
 obtain ⟨d2,rfl,a2,h⟩:=h
 unfold Ow at h
 obtain ⟨d3,rfl,a3,h⟩:=h
 unfold Ow at h
 obtain ⟨ai,ni,ci,d4,F1,F2,rfl,i1,i2,i3,i4,h,rfl⟩:=h
 unfold Ow at h
 obtain ⟨af,nf,cf,d5,F3,F4,rfl,j1,j2,j3,j4,h,rfl⟩:=h
 unfold Ow at h
 obtain ⟨d6,rfl,a6,h⟩:=h
 unfold Ow at h
 obtain ⟨d7,rfl,a7,h⟩:=h
 unfold Ow at h
 obtain ⟨d8,rfl,a8,h⟩:=h
 unfold Ow at h
 obtain ⟨d9,rfl,a9,h⟩:=h
 unfold Ow at h
 obtain ⟨rfl,rfl⟩:=h
 refine ⟨ai,ni,ci,af,nf,cf,rfl,?_⟩
 unfold litD Ow
 refine ⟨_,rfl,a1,?_⟩
 unfold Ow
 refine ⟨_,rfl,a2,?_⟩
 unfold Ow
 refine ⟨_,rfl,a3,?_⟩
 unfold Ow
 refine ⟨ai,ni,ci,_,F1,F3 ++ [],rfl,i1,i2,i3,i4,?_,rfl⟩
 unfold Ow
 refine ⟨af,nf,cf,_,F3,[],rfl,j1,j2,j3,j4,?_,rfl⟩
 unfold Ow
 refine ⟨_,rfl,a6,?_⟩
 unfold Ow
 refine ⟨_,rfl,a7,?_⟩
 unfold Ow
 exact ⟨rfl,rfl⟩
structure FvI (w wr:World) (vc:Array Value):Prop where
 bel:Below w.heap.size w wr
 v:wr.heap[w.heap.size]? = some (.cells vc 33 (0,0))
 r:wr.heap[w.heap.size + 1]? = some (.cells #[.int .i64 0,.int .i64 0] 31 (0,0))
end Go.Proofs.YtepmbmbnlmbhhaaGreat.cu
namespace Go.Proofs.YtepmbmbnlmbhhaaGreat.cr
open Go.ChangeShapes Go.WideShapes Go.ChangeAt Go.RowKit
open ints (Hi uh)
open dt (Dt Kp RowAt Ow OwL OwIn Grow)
open cu
theorem Mch.pop {w:World} {base g cap:Nat} {F:Fr} {S:List Fr} {cs:List Value} {rs:List (List Value)} {G1 G2:List Nat} (h:Mch w base (.slice (some ⟨g,0,none⟩) (S.length + 1) cap) (F :: S) (cs :: rs) (G1 ++ G2)) (hS:Stk w base S rs G2) (hl:rs.reverse.flatten.length = S.length * 7):Mch w base (.slice (some ⟨g,0,none⟩) S.length cap) S rs G2:=by
 have hr:=h.row
 rw [List.reverse_cons,List.flatten_append] at hr
 refine ⟨hS,ownsRow_pop hl hr,(List.nodup_append.1 h.nodup).2.1,fun b hm e => h.out b (List.mem_append_right _ hm) e⟩
theorem Mch.grow {w w2 w3:World} {base g cap t:Nat} {F F':Fr} {S:List Fr} {rs:List (List Value)} {sl sl':Value} {G' G'' G2 FF:List Nat}
  (h:Mch w base (.slice (some ⟨g,0,none⟩) (S.length + 1) cap) (F :: S) (F.cells sl :: rs) ((obl sl ++ G') ++ G2)) (hS:Stk w base S rs G2) (hl:rs.reverse.flatten.length = S.length * 7)
  (ht:t ∉ (obl sl ++ G') ++ G2 ∧ g ≠ t) (htF:t ∉ obl sl' ++ G'')
  (hs2:w.heap.size ≤ w2.heap.size) (hold:∀ b,b < w.heap.size → sl.ownBlock ≠ some b → w2.heap[b]? = w.heap[b]?) (hgr:Grow F'.T F'.sz w2 base F'.els sl' G'')
  (hnew:∀ b ∈ obl sl' ++ G'',b ∈ obl sl ++ G' ∨ b ∈ FF ∨ w.heap.size ≤ b) (hFF:∀ b ∈ FF,b ∉ G2 ∧ g ≠ b)
  (hs3:w2.heap.size ≤ w3.heap.size) (h23:∀ b,b < w2.heap.size → b ≠ t → w3.heap[b]? = w2.heap[b]?) :
  Mch (w3.setCells g (S.length * 7) (F'.cells sl')) base (.slice (some ⟨g,0,none⟩) (S.length + 1) cap) (F' :: S) (F'.cells sl' :: rs) ((obl sl' ++ G'') ++ G2):=by
 have hgl:=h.row.lt g rfl
 have hnd:=List.nodup_append.1 h.nodup
 have hgG:g ∉ obl sl ++ G' ∧ g ∉ G2:=⟨fun e => h.out g (List.mem_append_left _ e) rfl,fun e => h.out g (List.mem_append_right _ e) rfl⟩
 have hG2:=hS.len.2.2
 have hrF:=Grow.rngF hgr
 have hgsl:sl.ownBlock ≠ some g:=fun e => hgG.1 (List.mem_append_left _ (mem_obl.2 e))
 have hgn:∀ b ∈ obl sl' ++ G'',g ≠ b:=fun b hb e => by
  subst e
  rcases hnew g hb with e1 | e1 | e1
  ·exact hgG.1 e1
  ·exact (hFF g e1).2 rfl
  ·omega
 have hz:∀ b,g ≠ b → (w3.setCells g (S.length * 7) (F'.cells sl')).heap[b]? = w3.heap[b]? := fun b hb => dt.heap_setCells g b (fun e => hb e.symm) _ _ _
 have hsz:(w3.setCells g (S.length * 7) (F'.cells sl')).heap.size = w3.heap.size:=dt.size_setCells _ _ _ _
 refine ⟨⟨_,_,_,G2,rfl,rfl,⟨sl',G'',rfl,?_,rfl⟩,?_⟩,?_,?_,?_⟩
 ·refine Grow.keepF hgr (by rw [hsz];exact hs3) (fun b hb => ?_)
  rw [hz b (hgn b hb)]
  exact h23 b (hrF.1 b hb).2 (fun e => htF (e ▸ hb))
 ·refine hS.keep (by rw [hsz];omega) (fun b hb => ?_)
  have hb1:=(hG2 b hb).2
  rw [hz b (fun e => hgG.2 (e ▸ hb)),h23 b (by omega) (fun e => ht.1 (List.mem_append_right _ (e ▸ hb)))]
  exact hold b hb1 (fun e => hnd.2.2 b (List.mem_append_left _ (mem_obl.2 e)) b hb rfl)
 ·have hr:=h.row
  rw [List.reverse_cons,List.flatten_append] at hr
  have hr3:w3.ownsRow base 33 7 (.slice (some ⟨g,0,none⟩) (S.length + 1) cap) (S.length + 1) (rs.reverse.flatten ++ (F.cells sl ++ [])):=by
   have h2:=dt.owns_keep (w':=w2) hr (fun b h1 h2 h3 => by obtain rfl:=Option.some.inj h3;exact hold g hgl.2 hgsl)
   have h3:=dt.owns_keep (w':=w3) h2 (fun b h1 h2 h3 => by obtain rfl:=Option.some.inj h3;exact h23 g (by omega) ht.2)
   simpa using h3
  have:=owns_setMid (F'.cells sl') (F.cells sl) rs.reverse.flatten [] w3 (by rw [F.cells_7,F'.cells_7]) hr3
  rw [hl] at this
  rw [List.reverse_cons,List.flatten_append]
  simpa using this
 ·rw [List.nodup_append]
  refine ⟨hrF.2,hnd.2.1,fun x hx y hy e => ?_⟩
  subst e
  rcases hnew x hx with e1 | e1 | e1
  ·exact hnd.2.2 x e1 x hy rfl
  ·exact (hFF x e1).1 hy
  ·have:=(hG2 x hy).2;omega
 ·intro b hb e
  obtain rfl:=Option.some.inj e
  rcases List.mem_append.1 hb with hb | hb
  ·exact hgn _ hb rfl
  ·exact hgG.2 hb
theorem Grow.setLast {w:World} {base q cap:Nat} {ds:List Dt} {nm:ByteArray} {l c:Int} {d:Dt} {cs:List Value} {n:Nat} {G FF:List Nat} (h:Grow 59 10 w base (ds ++ [fldD nm zeroD l c]) (.slice (some ⟨q,0,none⟩) n cap) G)
  (hd:Ow w d cs FF) (hn:FF.Nodup) (h7:cs.length = 7) (hF:∀ b ∈ FF,base ≤ b ∧ b < w.heap.size ∧ b ∉ G ∧ q ≠ b) :
  ∃ G'',Grow 59 10 (w.setCells q (ds.length * 10 + 1) cs) base (ds ++ [fldD nm d l c]) (.slice (some ⟨q,0,none⟩) n cap) G'' ∧ (∀ b ∈ G'',b ∈ G ∨ b ∈ FF):=by
 obtain ⟨xss,hr,hol,hx⟩:=h.row
 have hz:∀ b,q ≠ b → (w.setCells q (ds.length * 10 + 1) cs).heap[b]? = w.heap[b]? := fun b hb => dt.heap_setCells q b (fun e => hb e.symm) _ _ _
 have hsz:(w.setCells q (ds.length * 10 + 1) cs).heap.size = w.heap.size:=dt.size_setCells _ _ _ _
 have hsplit:∀ (l1:List Dt) (e:Dt) (xss:List (List Value)) (G:List Nat),OwL Ow w (l1 ++ [e]) xss G → ∃ ys y G1 G2,xss = ys ++ [y] ∧ G = G1 ++ G2 ∧ OwL Ow w l1 ys G1 ∧ Ow w e y G2 ∧ ys.length = l1.length:=by
  intro l1
  induction l1 with
  | nil =>
   intro e xss G h
   obtain ⟨cs,l,G1,G2,rfl,h1,h2,rfl⟩:=h
   obtain ⟨rfl,rfl⟩:=h2
   exact ⟨[],cs,[],G1,rfl,by simp,⟨rfl,rfl⟩,h1,rfl⟩
  | cons a l1 ih =>
   intro e xss G h
   obtain ⟨cs,l,G1,G2,rfl,h1,h2,rfl⟩:=h
   obtain ⟨ys,y,H1,H2,rfl,rfl,h3,h4,h5⟩:=ih e l G2 h2
   exact ⟨cs :: ys,y,G1 ++ H1,H2,rfl,by simp,⟨cs,ys,G1,H1,rfl,h1,h3,rfl⟩,h4,by simp [h5]⟩
 obtain ⟨ys,y,G1,G2,rfl,rfl,h1,h2,h3⟩:=hsplit ds _ xss G hol
 obtain ⟨ai,ni,ci,af,nf,cf,rfl,-⟩:=fld_cells h2
 have hys:ys.flatten.length = ds.length * 10:=by
  rw [← h3]
  have:∀ k:List (List Value),(∀ r ∈ k,r.length = 10) → k.flatten.length = k.length * 10:=fun k hl => by
   induction k with
   | nil => rfl
   | cons a k ih => rw [List.flatten_cons,List.length_append,ih (fun r hr => hl r (by simp [hr])),hl a (by simp),List.length_cons];omega
  exact this ys (fun r hr => hx r (by simp [hr]))
 have hnG:=List.nodup_append.1 h.nodup
 refine ⟨G1 ++ FF,⟨?_,?_,?_,ys ++ [.string nm :: (cs ++ [.int .i64 l,.int .i64 c])],?_,?_,?_⟩,?_⟩
 ·rw [List.nodup_append]
  refine ⟨hnG.1,hn,fun x hx y hy e => ?_⟩
  subst e
  exact (hF x hy).2.2.1 (List.mem_append_left _ hx)
 ·intro b hb
  rw [hsz]
  rcases List.mem_append.1 hb with hb | hb
  ·exact h.rng b (List.mem_append_left _ hb)
  ·exact ⟨(hF b hb).1,(hF b hb).2.1⟩
 ·intro b hb e
  obtain rfl:=Option.some.inj e
  rcases List.mem_append.1 hb with hb | hb
  ·exact h.own q (List.mem_append_left _ hb) rfl
  ·exact (hF q hb).2.2.2 rfl
 ·have hr2:w.ownsRow base 59 10 (.slice (some ⟨q,0,none⟩) (ds ++ [fldD nm zeroD l c]).length cap) (ds ++ [fldD nm zeroD l c]).length ((ys.flatten ++ [.string nm]) ++ ([.int .i64 0,.string em,.bool false,.slice ai ni ci,.slice af nf cf,.int .i64 0,.int .i64 0] ++ [.int .i64 l,.int .i64 c])):=by
   have hv:n = (ds ++ [fldD nm zeroD l c]).length:=by
    rcases hr.2 with ⟨e,_⟩ | ⟨g',cap',cur,e,_⟩
    ·cases e
    ·injection e
   rw [← hv]
   rw [← hv] at hr
   simpa using hr
  have:=owns_setMid cs [.int .i64 0,.string em,.bool false,.slice ai ni ci,.slice af nf cf,.int .i64 0,.int .i64 0] (ys.flatten ++ [.string nm]) [.int .i64 l,.int .i64 c] w (by rw [h7];rfl) hr2
  rw [List.length_append,hys] at this
  have hv:n = (ds ++ [fldD nm d l c]).length:=by
   rcases hr.2 with ⟨e,_⟩ | ⟨g',cap',cur,e,_⟩
   ·cases e
   ·injection e with _ e2 _;rw [e2];simp
  rw [hv]
  simpa using this
 ·have hS:=OwL.snoc (fld_ow (nm:=nm) hd l c) h1
  refine OwL.agree (fun w w' e cs F => Ow.agree e cs F) (fun b hb j => dt.cell_blk (hz b ?_) j) hS
  rcases List.mem_append.1 hb with hb | hb
  ·exact fun e => h.own b (List.mem_append_left _ hb) (by rw [← e];rfl)
  ·exact (hF b hb).2.2.2
 ·intro xs hxs
  rcases List.mem_append.1 hxs with hxs | hxs
  ·exact hx xs (by simp [hxs])
  ·obtain rfl:xs = _:=by simpa using hxs
   simp [h7]
 ·intro b hb
  rcases List.mem_append.1 hb with hb | hb
  ·exact .inl (List.mem_append_left _ hb)
  ·exact .inr hb
open dt (Dt Kp RowAt Ow)
theorem closing8 (w:World):Calls Tryz.prog 69 #[.int .i64 8] w fun e w' => e = .returned (.string ⟨#[93]⟩) ∧ w' = w:=by
 go_enter Tryz.func69,Tryz.ntmps69
 go_wp2_with fail
 go_ret
 exact ⟨rfl,rfl⟩
theorem closing9 (w:World):Calls Tryz.prog 69 #[.int .i64 9] w fun e w' => e = .returned (.string ⟨#[125]⟩) ∧ w' = w:=by
 go_enter Tryz.func69,Tryz.ntmps69
 go_wp2_with fail
 go_ret
 exact ⟨rfl,rfl⟩
def leafD (K:Int × ByteArray × Bool × Int × Int):Dt:=litD K.1 K.2.1 K.2.2.1 .nil .nil K.2.2.2.1 K.2.2.2.2
inductive OneC (ct:Bool) (f:Nat) (c1:Cu):Prop
 | leaf (h8:(oneK ct c1).1 ≠ 8 ∧ (oneK ct c1).1 ≠ 9) (hk:(oneC ct c1).kd = 0) (hi:c1.ix < (oneC ct c1).ix) (hl:litF ct (f + 1) c1 = (some (leafD (oneK ct c1)),oneC ct c1))
 | opn (ob:Bool) (hK:oneK ct c1 = (if ob then 9 else 8,em,false,c1.tok.ln,c1.tok.co)) (hk:(oneC ct c1).kd = 0) (hi:(oneC ct c1).ix = c1.ix + 1) (hl:litF ct (f + 1) c1 = Fr.loop ct ⟨ob,f,c1.ts.length,[],none,c1.tok.ln,c1.tok.co⟩ (oneC ct c1))
 | shut (ob:Bool) (hK:oneK ct c1 = (if ob then 9 else 8,em,false,c1.tok.ln,c1.tok.co)) (hk:(oneC ct c1).kd ≠ 0) (hl:litF ct (f + 1) c1 = (none,oneC ct c1))
 | fail (h8:(oneK ct c1).1 ≠ 8 ∧ (oneK ct c1).1 ≠ 9) (hk:(oneC ct c1).kd ≠ 0) (hl:litF ct (f + 1) c1 = (none,oneC ct c1))
theorem stop_kd {c:Cu} (h:c.kd = 0) (k:Int) (hk:k ≠ 0):(c.stop k).kd ≠ 0:=by unfold Cu.stop;rw [if_pos h];exact hk
theorem one_cls (ct:Bool) (f:Nat) (c:Cu) (hok:c.Ok) (hkd:c.kd = 0):OneC ct f c:=by
 have hS:litF ct (f + 1) c = litS (litF ct f) ct c:=rfl
 by_cases k4:c.tok.k = 4
 ·have e1:oneK ct c = (2,c.tok.tx,false,c.tok.ln,c.tok.co):=by simp [oneK,hkd,k4]
  have e2:oneC ct c = c.take:=by simp [oneC,hkd,k4]
  exact .leaf (by rw [e1];simp) (by rw [e2];exact hkd) (by rw [e2];exact Nat.lt_succ_self _) (by rw [hS,e1,e2];unfold litS;rw [if_neg (fun e => e hkd),if_pos k4];rfl)
 by_cases k5:c.tok.k = 5
 ·have e1:oneK ct c = (3,c.tok.tx,false,c.tok.ln,c.tok.co):=by simp [oneK,hkd,k5]
  have e2:oneC ct c = c.take:=by simp [oneC,hkd,k5]
  exact .leaf (by rw [e1];simp) (by rw [e2];exact hkd) (by rw [e2];exact Nat.lt_succ_self _) (by rw [hS,e1,e2];unfold litS;rw [if_neg (fun e => e hkd),if_neg k4,if_pos k5];rfl)
 by_cases k67:c.tok.k = 6 ∨ c.tok.k = 7
 ·have e1:oneK ct c = (4,c.tok.va,decide (c.tok.k = 7),c.tok.ln,c.tok.co):=by unfold oneK;rw [if_neg (fun e => e hkd),if_neg k4,if_neg k5,if_pos k67]
  have e2:oneC ct c = c.take:=by unfold oneC;rw [if_neg (fun e => e hkd),if_pos (by rcases k67 with e | e;exact .inr (.inr (.inl e));exact .inr (.inr (.inr (.inl e))))]
  exact .leaf (by rw [e1];simp) (by rw [e2];exact hkd) (by rw [e2];exact Nat.lt_succ_self _) (by rw [hS,e1,e2];unfold litS;rw [if_neg (fun e => e hkd),if_neg k4,if_neg k5,if_pos k67];rfl)
 by_cases k3:c.tok.k = 3
 ·have e2:oneC ct c = c.take:=by unfold oneC;rw [if_neg (fun e => e hkd),if_pos (.inr (.inr (.inr (.inr k3))))]
  have e0:oneK ct c = (if c.tok.tx = bTrue ∨ c.tok.tx = bFalse then (5,c.tok.tx,false,c.tok.ln,c.tok.co) else if c.tok.tx = bNull then (6,em,false,c.tok.ln,c.tok.co) else (7,c.tok.tx,false,c.tok.ln,c.tok.co)):=by unfold oneK;rw [if_neg (fun e => e hkd),if_neg k4,if_neg k5,if_neg k67,if_pos k3]
  have hL:litF ct (f + 1) c = (some (wordD c.tok),c.take):=by rw [hS];unfold litS;rw [if_neg (fun e => e hkd),if_neg k4,if_neg k5,if_neg k67,if_pos k3]
  unfold wordD at hL
  by_cases h1:c.tok.tx = bTrue ∨ c.tok.tx = bFalse
  ·rw [if_pos h1] at e0 hL
   exact .leaf (by rw [e0];simp) (by rw [e2];exact hkd) (by rw [e2];exact Nat.lt_succ_self _) (by rw [hL,e0,e2];rfl)
  ·rw [if_neg h1] at e0 hL
   by_cases h3:c.tok.tx = bNull
   ·rw [if_pos h3] at e0 hL
    exact .leaf (by rw [e0];simp) (by rw [e2];exact hkd) (by rw [e2];exact Nat.lt_succ_self _) (by rw [hL,e0,e2];rfl)
   ·rw [if_neg h3] at e0 hL
    exact .leaf (by rw [e0];simp) (by rw [e2];exact hkd) (by rw [e2];exact Nat.lt_succ_self _) (by rw [hL,e0,e2];rfl)
 have hL:litF ct (f + 1) c = (if c.isP bDol ∧ ct = false then varS c else if c.isP bLb then listS (litF ct f) c else if c.isP bLc then objS (litF ct f) c else (none,c.stop 70)):=by
  rw [hS];unfold litS;rw [if_neg (fun e => e hkd),if_neg k4,if_neg k5,if_neg k67,if_neg k3]
 have HK:oneK ct c = if c.isP bDol ∧ ct = false then (1,(if c.take.isN then c.take.tok.tx else em),false,c.tok.ln,c.tok.co) else if c.isP bLb then (8,em,false,c.tok.ln,c.tok.co) else if c.isP bLc then (9,em,false,c.tok.ln,c.tok.co) else (0,em,false,0,0):=by
  unfold oneK
  rw [if_neg (fun e => e hkd),if_neg k4,if_neg k5,if_neg k67,if_neg k3]
 have HC:oneC ct c = if c.isP bDol ∧ ct = false then c.take.name else if c.isP bLb then c.opn bLb else if c.isP bLc then c.opn bLc else c.stop 70:=by
  unfold oneC
  rw [if_neg (fun e => e hkd),if_neg (by rintro (e | e | e | e | e);exact k4 e;exact k5 e;exact k67 (.inl e);exact k67 (.inr e);exact k3 e)]
 by_cases hd:c.isP bDol ∧ ct = false
 ·rw [if_pos hd] at HK HC hL
  have htk:c.take.kd = 0:=hkd
  have hst:=takeP hok hd.1
  unfold varS at hL
  cases hn:c.take.isN with
  | true =>
   rw [hn] at HK hL
   simp only [if_true] at HK hL
   exact .leaf (by rw [HK];simp) (by rw [HC];unfold Cu.name;rw [hn];exact hkd) (by rw [HC];exact Nat.lt_of_lt_of_le (Nat.lt_succ_self _) (name_stp hst.ok).ix) (by rw [hL,HK,HC];rfl)
  | false =>
   rw [hn] at hL
   refine .fail (by rw [HK];simp) ?_ (by rw [hL,HC];rfl)
   rw [HC]
   unfold Cu.name
   rw [hn]
   exact stop_kd htk 70 (by decide)
 ·rw [if_neg hd] at HK HC hL
  have key:∀ ob:Bool,c.isP (if ob then bLc else bLb) = true → oneK ct c = (if ob then 9 else 8,em,false,c.tok.ln,c.tok.co) → oneC ct c = c.opn (if ob then bLc else bLb) → OneC ct f c:=fun ob hp hK hC => by
   cases ho:c.opB (if ob then bLc else bLb) with
   | true =>
    refine .opn ob hK ?_ ?_ ?_
    ·rw [hC]
     unfold Cu.opB at ho
     simp only [Bool.and_eq_true,decide_eq_true_eq] at ho
     unfold Cu.opn
     rw [if_pos ho.1,if_pos ho.2]
     exact hkd
    ·rw [hC,opn_ix ho]
    ·rw [hC];exact lit_open ct f c hkd ob hp ho
   | false =>
    have hn:¬ c.op < c.mo:=fun e => by unfold Cu.opB at ho;rw [hp] at ho;simp [e] at ho
    have hC2:c.opn (if ob then bLc else bLb) = c.stop 71:=by unfold Cu.opn;rw [if_pos hp,if_neg hn]
    refine .shut ob hK (by rw [hC,hC2];exact stop_kd hkd 71 (by decide)) ?_
    rw [hC]
    cases ob with
    | false =>
     simp only [Bool.false_eq_true,if_false] at hp ho ⊢
     rw [hL,if_pos hp]
     unfold listS brk
     rw [ho]
     rfl
    | true =>
     simp only [if_true] at hp ho ⊢
     have hl:c.isP bLb = false:=isP_no (fun e => by have:=e.2;rw [(isP_k hp).2.2] at this;revert this;decide)
     rw [hL,hl,if_neg (by decide),if_pos hp]
     unfold objS brk
     rw [ho]
     rfl
  by_cases hl:c.isP bLb = true
  ·exact key false hl (by rw [HK,if_pos hl];rfl) (by rw [HC,if_pos hl];rfl)
  ·by_cases ho:c.isP bLc = true
   ·exact key true ho (by rw [HK,if_neg hl,if_pos ho];rfl) (by rw [HC,if_neg hl,if_pos ho];rfl)
   ·rw [if_neg hl,if_neg ho] at HK HC hL
    exact .fail (by rw [HK];simp) (by rw [HC];exact stop_kd hkd 70 (by decide)) (by rw [hL,HC])
theorem one_dead' (ct:Bool) (f:Nat) (c:Cu) (hkd:c.kd ≠ 0):OneC ct f c:=
 .fail (by unfold oneK;rw [if_pos hkd];simp) (by unfold oneC;rw [if_pos hkd];exact hkd) (by show litS (litF ct f) ct c = _;unfold litS oneC;rw [if_pos hkd,if_pos hkd])
theorem one_cls' (ct:Bool) (f:Nat) (c:Cu) (hok:c.Ok):OneC ct f c:=by
 by_cases h:c.kd = 0
 ·exact one_cls ct f c hok h
 ·exact one_dead' ct f c h
inductive Ms (ct:Bool) (N:Nat) (Tot:Option Dt × Cu) (c:Cu) (S:List Fr):Prop
 | dead (h:c.kd ≠ 0) (ht:Tot = (none,c))
 | init (f:Nat) (h:c.kd = 0) (hS:S = []) (hf:N ≤ f + c.ix) (ht:Tot = litF ct f c)
 | opn (F:Fr) (S':List Fr) (h:c.kd = 0) (hS:S = F :: S') (hp:F.pn = none) (hf:∀ E ∈ S,N < E.g + c.ix ∧ N ≤ E.f + c.ix) (ht:Tot = ret ct S' (F.loop ct c))
end Go.Proofs.YtepmbmbnlmbhhaaGreat.cr
