import Derived.Test.YtifbkdicglcogaaGreatSgg18
set_option linter.unusedVariables false
set_option linter.unusedSimpArgs false
namespace Go.Proofs.YtifbkdicglcogaaGreat.cu
open dt (Dt Kp RowAt Ow Grow)
open mem (decF decZ putB scB Byt posT enB)
open lx (toks chs cln tksG tkG)
theorem unm_faults {T:TypR} {b:Nat} (hF:Faults T b):Faults (unm T) (b + 1):=by
 intro c hc hb hn
 unfold unm at hn ⊢
 by_cases hp:c.isP bLb = true
 ·rw [if_pos hp] at hn ⊢
  by_cases hB:c.opB bLb = true
  ·rw [if_pos hB] at hn ⊢
   have ho:=opn_stp hc bLb
   have hx:=opn_ix hB
   cases hq:(T (c.opn bLb)).1 with
   | none => exact hF _ ho.ok (by rw [ho.ts,hx];omega) hq
   | some it =>
    rw [hq] at hn
    dsimp only at hn ⊢
    by_cases hr:(T (c.opn bLb)).2.isP bRb = true
    ·rw [if_pos hr] at hn;cases hn
    ·rw [if_neg hr]
     show ((T (c.opn bLb)).2.cls bRb).kd ≠ 0
     unfold Cu.cls
     rw [if_neg hr]
     exact stop_kd _ _ (by decide)
  ·rw [if_neg hB]
   exact opn_kd (by simpa using hB)
 ·rw [if_neg hp] at hn ⊢
  by_cases hN:c.isN = true
  ·rw [if_pos hN] at hn;cases hn
  ·rw [if_neg hN]
   exact name_kd (by simpa using hN)
theorem typF_faults:∀ f,Faults (typF f) f
 | 0 => fun c hc hb hn => by have:=hc.lt;omega
 | f + 1 => fun c hc hb hn => by
  have hu:=unm_faults (typF_faults f) c hc hb
  change (typ (unm (typF f)) c).1 = none at hn
  show (typ (unm (typF f)) c).2.kd ≠ 0
  unfold typ at hn ⊢
  cases hq:(unm (typF f) c).1 with
  | none => exact hu hq
  | some r =>
   rw [hq] at hn
   dsimp only at hn
   split at hn <;> cases hn
section
variable {M b:Nat}
theorem unmI_at {T:TypR} {u:Cu}:unmI T u = (match (T u).1 with | none => (none,(T u).2) | some it => (cond ((T u).2.isP bRb) (some (it.1,it.2 ++ bRb)) none,(T u).2.cls bRb)):=by
 unfold unmI
 show (match (T u).1 with | none => ret none | some it => bnd (clsR bRb) fun cl => ret (cond cl (some (it.1,it.2 ++ bRb)) none)) (T u).2 = _
 cases (T u).1 <;> rfl
theorem cls_no {c:Cu} {p:ByteArray} (h:¬ c.isP p = true):(c.cls p).kd ≠ 0:=by
 unfold Cu.cls
 rw [if_neg h]
 exact stop_kd _ _ (by decide)
theorem unmO_3 {T:TypR} (hF:Faults T b) (h:Ok3 M T b):Ok3 M (bnd (opnR bLb) fun o => cond o (unmI T) (ret none)) (b + 1):=by
 have eq:∀ c:Cu,(bnd (opnR bLb) fun o => cond o (unmI T) (ret none)) c = cond (c.opB bLb) (unmI T) (ret none) (c.opn bLb):=fun c => rfl
 have sU:St (unmI T):=unmI_st h.st
 refine ⟨(opnR_st bLb).bnd fun o => ite_st sU (ret_st _),fun c hc => ?_,fun c hc hb hi h0 hk => ?_,fun c hc hb hi h0 hk hw => ?_⟩
 ·rw [eq]
  have hB:c.opB bLb = false:=by unfold Cu.opB;rw [isP_dead hc];rfl
  rw [hB]
  show c.opn bLb = c
  unfold Cu.opn
  rw [isP_dead hc]
  exact stop_dead _ _ hc
 ·rw [eq] at hk ⊢
  have ho:=opn_stp hc bLb
  by_cases hB:c.opB bLb = true
  ·rw [hB] at hk ⊢
   simp only [cond_true] at hk ⊢
   rw [unmI_at] at hk ⊢
   obtain ⟨h1,h2,h3⟩:=opn_yes hB
   have hI:=opn_inv dl_lb hB hi
   have hkd:(c.opn bLb).kd = 0:=by rw [h3];exact h0
   have hop:(c.opn bLb).op = c.op + 1:=by rw [h3]
   have hix:=opn_ix hB
   have hb':(c.opn bLb).ts.length ≤ b + (c.opn bLb).ix:=by rw [ho.ts,hix];omega
   cases hq:(T (c.opn bLb)).1 with
   | none => rw [hq] at hk;exact absurd hk (hF _ ho.ok hb' hq)
   | some it =>
    rw [hq] at hk
    dsimp only at hk ⊢
    by_cases hr:(T (c.opn bLb)).2.isP bRb = true
    ·rw [cls_yes hr] at hk ⊢
     obtain ⟨o1,i1⟩:=h.bal _ ho.ok hb' hI hkd hk
     refine ⟨by show (T (c.opn bLb)).2.op - 1 = c.op;omega,?_⟩
     show (((T (c.opn bLb)).2.op - 1:Nat):Int) = dpt (T (c.opn bLb)).2.ts ((T (c.opn bLb)).2.ix + 1)
     rw [dpt_tok,dlt_isP hr,dl_rb]
     have hi':((T (c.opn bLb)).2.op:Int) = dpt (T (c.opn bLb)).2.ts (T (c.opn bLb)).2.ix:=i1
     omega
    ·exact absurd hk (cls_no hr)
  ·have hB':c.opB bLb = false:=by simpa using hB
   rw [hB'] at hk
   exact absurd hk (opn_kd hB')
 ·rw [eq] at hk
  rw [eq,eq]
  have ho:=opn_stp hc bLb
  by_cases hB:c.opB bLb = true
  ·rw [hB] at hk ⊢
   simp only [cond_true] at hk ⊢
   have sF:=sU _ ho.ok
   rw [unmI_at] at hk
   obtain ⟨h1,h2,h3⟩:=opn_yes hB
   have hI:=opn_inv dl_lb hB hi
   have hkd:(c.opn bLb).kd = 0:=by rw [h3];exact h0
   have hop:(c.opn bLb).op = c.op + 1:=by rw [h3]
   have hix:=opn_ix hB
   have hb':(c.opn bLb).ts.length ≤ b + (c.opn bLb).ix:=by rw [ho.ts,hix];omega
   rcases opn_dep dl_lb hB h0 hi hw with ⟨l1,b1,e1⟩ | ⟨b1,d1⟩
   ·rw [b1,e1]
    simp only [cond_true]
    rw [unmI_at,unmI_at] at *
    cases hq:(T (c.opn bLb)).1 with
    | none => rw [hq] at hk;exact absurd hk (hF _ ho.ok hb' hq)
    | some it =>
     rw [hq] at hk sF
     dsimp only at hk sF ⊢
     by_cases hr:(T (c.opn bLb)).2.isP bRb = true
     ·have hk2:(T (c.opn bLb)).2.kd = 0:=by rw [cls_yes hr] at hk;exact hk
      have sT:=h.st _ ho.ok
      rcases h.dep _ ho.ok hb' hI hkd hk2 (by rw [ho.ts,hix];exact l1) with ⟨l2,e2⟩ | d2
      ·rw [e2,hq]
       dsimp only
       have hr':((T (c.opn bLb)).2.at M).isP bRb = true:=hr
       rw [cls_yes hr,cls_yes hr',hr,hr']
       left
       rw [ho.ts] at l2
       refine ⟨l2.succ ?_,rfl⟩
       have:dpt c.ts ((T (c.opn bLb)).2.ix + 1) = dpt c.ts (T (c.opn bLb)).2.ix + -1:=by
        have e:=dpt_tok (T (c.opn bLb)).2
        rw [dlt_isP hr,dl_rb,sT.ts,ho.ts] at e
        exact e
       rw [this]
       have:=l2.top
       omega
      ·right
       have hdd:=d2.dead
       have:=sF.ix
       have s3:=cls_stp sT.ok bRb
       cases hx:(T ((c.opn bLb).at M)).1 with
       | none => exact (d2.to s3.ix).of ho
       | some it' =>
        dsimp only
        have:(T ((c.opn bLb).at M)).2.cls bRb = (T ((c.opn bLb).at M)).2:=by unfold Cu.cls;rw [isP_dead hdd];exact stop_dead _ _ hdd
        rw [this]
        exact (d2.to s3.ix).of ho
     ·exact absurd hk (cls_no hr)
   ·rw [b1]
    simp only [cond_false]
    exact .inr (d1 _ (by have:=sF.ix;omega))
  ·have hB':c.opB bLb = false:=by simpa using hB
   rw [hB'] at hk
   exact absurd hk (opn_kd hB')
theorem unm_3 {T:TypR} (hF:Faults T b) (h:Ok3 M T b):Ok3 M (unm T) (b + 1):=by
 rw [unm_eq]
 exact (isPR_3 _).bnd fun q => cond_3 (unmO_3 hF h) (nR_3.bnd fun n => ret_3 _)
theorem typF_3:∀ f,Ok3 M (typF f) f
 | 0 => ⟨typF_st 0,fun c hc => rfl,fun c hc hb => by have:=hc.lt;omega,fun c hc hb => by have:=hc.lt;omega⟩
 | f + 1 => by
  show Ok3 M (typ (unm (typF f))) (f + 1)
  rw [typ_eq]
  exact (unm_3 (typF_faults f) (typF_3 f)).bnd fun r => by
   cases r with
   | none => exact ret_3 _
   | some r => exact (punctR_3 _ dl_bang).bnd fun q => ret_3 _
end
open mem (posT Byt)
theorem tks_last3 (l:List Int) (cl:Bool):∀ (m i:Nat) (t:Tk),i ≤ l.length → (tksG l cl i)[m]? = some t → t.k = 0 ∨ t.k = 1 → (tksG l cl i).length = m + 1
 | 0,i,t,hi,h,hk => by
  by_cases he:(tkG l cl i).k = 0 ∨ (tkG l cl i).k = 1
  ·rw [lx.tksG_end he];rfl
  ·rw [lx.tksG_go hi he] at h;simp at h;subst h;exact absurd hk he
 | m + 1,i,t,hi,h,hk => by
  have hle:=lx.tkG_le l cl i hi
  by_cases he:(tkG l cl i).k = 0 ∨ (tkG l cl i).k = 1
  ·rw [lx.tksG_end he] at h;simp at h
  ·rw [lx.tksG_go hi he] at h ⊢
   have:=tks_last3 l cl m _ t hle.2.1 (by simpa using h) hk
   simp;omega
theorem dl_amp:dlt (pk bAmp) = 0:=by decide
theorem dl_pipe:dlt (pk bPipe) = 0:=by decide
section
variable {M b:Nat}
theorem namR_3:Ok3 M namR b:=prim3 namR_st (fun c h => name_still h) (fun c h0 hk => nmC_1 (fun e => e) hk) (fun c => by
 show (nm3 c.tok c.isN,(c.at M).nmC c.isN) = (nm3 c.tok c.isN,(c.nmC c.isN).at M)
 rw [nmC_at])
theorem butN_3 (ws:List ByteArray):Ok3 M (butN ws) b:=prim3 (butN_st ws) (fun c h => nmC_sti h (fun e => by simp at e;exact e.1)) (fun c h0 hk => nmC_1 (fun e => by simp at e;exact e.1) hk) (fun c => by
 show (nm3 c.tok _,(c.at M).nmC _) = (nm3 c.tok _,(c.nmC _).at M)
 rw [nmC_at];rfl)
theorem wwN_3 (ws:List ByteArray):Ok3 M (wwN ws) b:=prim3 (wwN_st ws) (fun c h => nmC_sti h (fun e => isW_N e)) (fun c h0 hk => nmC_1 (fun e => isW_N e) hk) (fun c => by
 show (nm3 c.tok (c.isW ws),(c.at M).nmC _) = (nm3 c.tok (c.isW ws),(c.nmC _).at M)
 rw [nmC_at];rfl)
theorem noteR_3:Ok3 M noteR b:=prim3 noteR_st noteR_m (fun c h0 hk => by
 unfold noteR
 split
 ·rename_i hs
  exact .inr ⟨rfl,dlt_k (by have:=(isS_k hs).2;omega)⟩
 ·exact .inl rfl) (fun c => by
 show (if c.isS then ((true,decide (c.tok.k = 7),c.tok.va),(c.at M).take) else ((false,false,em),c.at M)) = ((noteR c).1,(noteR c).2.at M)
 unfold noteR
 split <;> rfl)
theorem parF_3 {E:Cu → Nm × Cu} {k:ByteArray} (hk:dlt (pk k) = 0) (h:Ok3 M E b):∀ (g:Nat) (l:List Dt),Ok3 M (parF E k g l) b
 | 0,l => ret_3 l
 | g + 1,l => (punctR_3 k hk).bnd fun q => cond_3 (h.bnd fun d => parF_3 hk h g _) (ret_3 l)
end
section
variable {M:Nat} (N:Nat)
end
open Go.ChangeShapes Go.WideShapes Go.ChangeAt Go.RowKit
open ints (Hi uh)
open dt (Dt Kp RowAt Ow Grow OwIn)
open mem (Row)
theorem lit_cells {w:World} {k:Int} {tx:ByteArray} {bl:Bool} {its fls:List Dt} {ln co:Int} {cs:List Value} {F:List Nat} (h:Ow w (litD k tx bl (Dt.of its) (Dt.of fls) ln co) cs F) :
  ∃ ai ni ci af nf cf,cs = [.int .i64 k,.string tx,.bool bl,.slice ai ni ci,.slice af nf cf,.int .i64 ln,.int .i64 co] ∧ ni = its.length ∧ nf = fls.length ∧ ni ≤ ci ∧ nf ≤ cf ∧ ci ≤ maxLen ∧ cf ≤ maxLen ∧
   (∀ i e,its[i]? = some e → ∃ p ds G,ai = some ⟨p,0,none⟩ ∧ p ∈ F ∧ RowAt w p (i * 7) ds ∧ ds.length = 7 ∧ Ow w e ds G ∧ ∀ b ∈ G,b ∈ F) ∧
   (∀ i e,fls[i]? = some e → ∃ p ds G,af = some ⟨p,0,none⟩ ∧ p ∈ F ∧ RowAt w p (i * 10) ds ∧ ds.length = 10 ∧ Ow w e ds G ∧ ∀ b ∈ G,b ∈ F):=by
 unfold litD at h
 unfold Ow at h
 obtain ⟨d1,rfl,_,h⟩:=h
 unfold Ow at h
 obtain ⟨d2,rfl,_,h⟩:=h
 unfold Ow at h
 obtain ⟨d3,rfl,_,h⟩:=h
 unfold Ow at h
 obtain ⟨ai,ni,ci,d4,F1,F2,rfl,i1,i2,i3,i4,h,rfl⟩:=h
 unfold Ow at h
 obtain ⟨af,nf,cf,d5,F3,F4,rfl,j1,j2,j3,j4,h,rfl⟩:=h
 unfold Ow at h
 obtain ⟨d6,rfl,_,h⟩:=h
 unfold Ow at h
 obtain ⟨d7,rfl,_,h⟩:=h
 unfold Ow at h
 obtain ⟨rfl,rfl⟩:=h
 have key:∀ (l:List Dt) (k:Nat) (a:Option Addr) (n:Nat) (G0:List Nat),((a = none ∧ Dt.of l = .nil ∧ n = 0 ∧ G0 = []) ∨ ∃ p G,a = some ⟨p,0,none⟩ ∧ G0 = p :: G ∧ OwIn w (Dt.of l) k p 0 n G) → n = l.length ∧ ∀ i e,l[i]? = some e → ∃ p ds G,a = some ⟨p,0,none⟩ ∧ p ∈ G0 ∧ RowAt w p (i * k) ds ∧ ds.length = k ∧ Ow w e ds G ∧ ∀ b ∈ G,b ∈ G0:=by
  intro l k a n G0 h
  rcases h with ⟨_,h2,h3,_⟩ | ⟨p,G,rfl,rfl,h⟩
  ·cases l with
   | nil => exact ⟨h3,fun i e he => by simp at he⟩
   | cons d l => unfold Dt.of at h2;cases h2
  ·obtain ⟨h1,h2⟩:=OwIn.get l k p 0 n G h
   refine ⟨h1.symm,fun i e he => ?_⟩
   obtain ⟨ds,Gi,g1,g2,g3,g4⟩:=h2 i e he
   exact ⟨p,ds,Gi,rfl,by simp,by simpa using g1,g2,g3,fun b hb => by simp [g4 b hb]⟩
 obtain ⟨e1,e2⟩:=key its 7 ai ni F1 i4
 obtain ⟨e3,e4⟩:=key fls 10 af nf F3 j4
 refine ⟨ai,ni,ci,af,nf,cf,rfl,e1,e3,i1,j1,i2,j2,fun i e he => ?_,fun i e he => ?_⟩
 ·obtain ⟨p,ds,G,g1,g2,g3,g4,g5,g6⟩:=e2 i e he
  exact ⟨p,ds,G,g1,by simp [g2],g3,g4,g5,fun b hb => by simp [g6 b hb]⟩
 ·obtain ⟨p,ds,G,g1,g2,g3,g4,g5,g6⟩:=e4 i e he
  exact ⟨p,ds,G,g1,by simp [g2],g3,g4,g5,fun b hb => by simp [g6 b hb]⟩
theorem fld_cells {w:World} {nm:ByteArray} {k:Int} {tx:ByteArray} {bl:Bool} {its fls:Dt} {ln co x y:Int} {cs:List Value} {F:List Nat} (h:Ow w (fldD nm (litD k tx bl its fls ln co) x y) cs F) :
  ∃ ai ni ci af nf cf,cs = [.string nm,.int .i64 k,.string tx,.bool bl,.slice ai ni ci,.slice af nf cf,.int .i64 ln,.int .i64 co,.int .i64 x,.int .i64 y] ∧ Ow w (litD k tx bl its fls ln co) [.int .i64 k,.string tx,.bool bl,.slice ai ni ci,.slice af nf cf,.int .i64 ln,.int .i64 co] F:=by
 unfold fldD litD at h
 simp only [app] at h
 unfold Ow at h
 obtain ⟨d0,rfl,_,h⟩:=h
 unfold Ow at h
 obtain ⟨d1,rfl,a1,h⟩:=h
 unfold Ow at h
 obtain ⟨d2,rfl,a2,h⟩:=h
 unfold Ow at h
 obtain ⟨d3,rfl,a3,h⟩:=h
 unfold Ow at h
 obtain ⟨ai,ni,ci,d4,F1,F2,rfl,i1,i2,i3,i4,h,rfl⟩:=h
 unfold Ow at h
 obtain ⟨af,nf,cf,d5,F3,F4,rfl,j1,j2,j3,j4,h,rfl⟩:=h
 unfold Ow at h
 obtain ⟨d6,rfl,a6,h⟩:=h
 unfold Ow at h
 obtain ⟨d7,rfl,a7,h⟩:=h
 unfold Ow at h
 obtain ⟨d8,rfl,a8,h⟩:=h
 unfold Ow at h
 obtain ⟨d9,rfl,a9,h⟩:=h
 unfold Ow at h
 obtain ⟨rfl,rfl⟩:=h
 refine ⟨ai,ni,ci,af,nf,cf,rfl,?_⟩
 unfold litD Ow
 refine ⟨_,rfl,a1,?_⟩
 unfold Ow
 refine ⟨_,rfl,a2,?_⟩
 unfold Ow
 refine ⟨_,rfl,a3,?_⟩
 unfold Ow
 refine ⟨ai,ni,ci,_,F1,F3 ++ [],rfl,i1,i2,i3,i4,?_,rfl⟩
 unfold Ow
 refine ⟨af,nf,cf,_,F3,[],rfl,j1,j2,j3,j4,?_,rfl⟩
 unfold Ow
 refine ⟨_,rfl,a6,?_⟩
 unfold Ow
 refine ⟨_,rfl,a7,?_⟩
 unfold Ow
 exact ⟨rfl,rfl⟩
structure FvI (w wr:World) (vc:Array Value):Prop where
 bel:Below w.heap.size w wr
 v:wr.heap[w.heap.size]? = some (.cells vc 99 (0,0))
 r:wr.heap[w.heap.size + 1]? = some (.cells #[.int .i64 0,.int .i64 0] 37 (0,0))
def EqL (pl:Bool):Nat → Dt → Dt → Prop
 | 0,_,_ => False
 | f + 1,d,e => ∃ k tx bl its its' fls fls' ln co ln' co',d = litD k tx bl (Dt.of its) (Dt.of fls) ln co ∧ e = litD k tx bl (Dt.of its') (Dt.of fls') ln' co' ∧ (pl = true → ln = ln' ∧ co = co') ∧
   its.length = its'.length ∧ fls.length = fls'.length ∧ (∀ (i:Nat) x y,its[i]? = some x → its'[i]? = some y → EqL pl f x y) ∧
   (∀ (i:Nat) x y,fls[i]? = some x → fls'[i]? = some y → ∃ nm v v' a b a' b',x = fldD nm v a b ∧ y = fldD nm v' a' b' ∧ (pl = true → a = a' ∧ b = b') ∧ EqL pl f v v')
theorem EqL.left {pl:Bool}:∀ {f:Nat} {d e:Dt},EqL pl f d e → ∃ k tx bl its fls ln co,d = litD k tx bl its fls ln co
 | 0,d,e,h => h.elim
 | f + 1,d,e,⟨k,tx,bl,its,its',fls,fls',ln,co,ln',co',h,_⟩ => ⟨k,tx,bl,_,_,ln,co,h⟩
theorem EqL.right {pl:Bool}:∀ {f:Nat} {d e:Dt},EqL pl f d e → ∃ k tx bl its fls ln co,e = litD k tx bl its fls ln co
 | 0,d,e,h => h.elim
 | f + 1,d,e,⟨k,tx,bl,its,its',fls,fls',ln,co,ln',co',_,h,_⟩ => ⟨k,tx,bl,_,_,ln',co',h⟩
theorem lit_shape {w:World} {k:Int} {tx:ByteArray} {bl:Bool} {its fls:Dt} {ln co:Int} {cs:List Value} {F:List Nat} (h:Ow w (litD k tx bl its fls ln co) cs F):LShape cs:=by
 unfold litD at h
 unfold Ow at h
 obtain ⟨d1,rfl,_,h⟩:=h
 unfold Ow at h
 obtain ⟨d2,rfl,_,h⟩:=h
 unfold Ow at h
 obtain ⟨d3,rfl,_,h⟩:=h
 unfold Ow at h
 obtain ⟨ai,ni,ci,d4,F1,F2,rfl,i1,i2,i3,i4,h,rfl⟩:=h
 unfold Ow at h
 obtain ⟨af,nf,cf,d5,F3,F4,rfl,j1,j2,j3,j4,h,rfl⟩:=h
 unfold Ow at h
 obtain ⟨d6,rfl,_,h⟩:=h
 unfold Ow at h
 obtain ⟨d7,rfl,_,h⟩:=h
 unfold Ow at h
 obtain ⟨rfl,rfl⟩:=h
 exact ⟨_,_,_,_,_,_,_,_,_,_,_,rfl⟩
def SmAt (pl:Bool) (d e:Dt):Prop:=∀ (w:World) (cs ds:List Value) (F G:List Nat),Ow w d cs F → Ow w e ds G → (∀ b ∈ F,b < w.heap.size) → (∀ b ∈ G,b < w.heap.size) → Calls Tryz.prog 67 #[.agg cs.toArray,.agg ds.toArray,.bool pl] w fun e w' => e = .returned (.bool true) ∧ Below w.heap.size w w'
structure SmI (w wr:World) (vc uc:Array Value):Prop where
 bel:Below w.heap.size w wr
 v:wr.heap[w.heap.size]? = some (.cells vc 99 (0,0))
 u:wr.heap[w.heap.size + 1]? = some (.cells uc 99 (0,0))
theorem SmI.more {w wr wn:World} {vc uc:Array Value} (h:SmI w wr vc uc) (hb:Below wr.heap.size wr wn):SmI w wn vc uc:=by
 have h1:w.heap.size < wr.heap.size:=by
  rcases Nat.lt_or_ge w.heap.size wr.heap.size with g | g
  ·exact g
  ·have:=h.v;rw [Array.getElem?_eq_none g] at this;cases this
 have h2:w.heap.size + 1 < wr.heap.size:=by
  rcases Nat.lt_or_ge (w.heap.size + 1) wr.heap.size with g | g
  ·exact g
  ·have:=h.u;rw [Array.getElem?_eq_none g] at this;cases this
 exact ⟨h.bel.trans (hb.mono h.bel.size),(hb.block _ h1).trans h.v,(hb.block _ h2).trans h.u⟩
def EqLs (R:Dt → Dt → Prop) (l l':List Dt):Prop:=l.length = l'.length ∧ ∀ (i:Nat) x y,l[i]? = some x → l'[i]? = some y → R x y
def EqA (pl:Bool) (f:Nat) (x y:Dt):Prop:=∃ nm v v' a b a' b',x = fldD nm v a b ∧ y = fldD nm v' a' b' ∧ (pl = true → a = a' ∧ b = b') ∧ EqL pl f v v'
def EqR (pl:Bool) (f:Nat) (x y:Dt):Prop:=∃ nm l l' a b a' b',x = dirD nm l a b ∧ y = dirD nm l' a' b' ∧ (pl = true → a = a' ∧ b = b') ∧ EqLs (EqA pl f) l l'
def Ls (w:World) (k:Nat) (l:List Dt) (a:Option Addr) (F:List Nat):Prop:=l = [] ∨ ∃ p off,a = some ⟨p,off,none⟩ ∧ p ∈ F ∧ ∀ (i:Nat) e,l[i]? = some e → ∃ ds G,RowAt w p (off + i * k) ds ∧ ds.length = k ∧ Ow w e ds G ∧ ∀ b ∈ G,b ∈ F
theorem Ls.below {w w':World} {k:Nat} {l:List Dt} {a:Option Addr} {F:List Nat} (h:Ls w k l a F) (hF:∀ b ∈ F,b < w.heap.size) (hb:Below w.heap.size w w'):Ls w' k l a F:=by
 rcases h with h | ⟨p,off,ha,hp,h⟩
 ·exact .inl h
 ·refine .inr ⟨p,off,ha,hp,fun i e he => ?_⟩
  obtain ⟨ds,G,h1,h2,h3,h4⟩:=h i e he
  exact ⟨ds,G,h1.below hb,h2,dt.Ow.agree e ds G (fun b hb' o => hb.cell (p:=⟨b,o,none⟩) (hF b (h4 b hb'))) h3,h4⟩
theorem Ls.mono {w:World} {k:Nat} {l:List Dt} {a:Option Addr} {F F':List Nat} (h:Ls w k l a F) (hF:∀ b ∈ F,b ∈ F'):Ls w k l a F':=by
 rcases h with h | ⟨p,off,ha,hp,h⟩
 ·exact .inl h
 ·refine .inr ⟨p,off,ha,hF p hp,fun i e he => ?_⟩
  obtain ⟨ds,G,h1,h2,h3,h4⟩:=h i e he
  exact ⟨ds,G,h1,h2,h3,fun b hb => hF b (h4 b hb)⟩
theorem lst_ls {w:World} {k n:Nat} {l:List Dt} {a:Option Addr} {F:List Nat} (h:(a = none ∧ Dt.of l = .nil ∧ n = 0 ∧ F = []) ∨ ∃ p G,a = some ⟨p,0,none⟩ ∧ F = p :: G ∧ OwIn w (Dt.of l) k p 0 n G):n = l.length ∧ Ls w k l a F:=by
 rcases h with ⟨h1,h2,h3,h4⟩ | ⟨p,G,h1,rfl,h3⟩
 ·have:l = []:=by
   cases l with
   | nil => rfl
   | cons e r => simp [Dt.of] at h2
  exact ⟨by rw [this,h3];rfl,.inl this⟩
 ·obtain ⟨h4,h5⟩:=dt.OwIn.get l k p 0 n G h3
  refine ⟨h4.symm,.inr ⟨p,0,h1,List.mem_cons_self ..,fun i e he => ?_⟩⟩
  obtain ⟨cs,Gi,h6,h7,h8,h9⟩:=h5 i e he
  exact ⟨cs,Gi,h6,h7,h8,fun b hb => List.mem_cons_of_mem _ (h9 b hb)⟩
theorem dir_cells {w:World} {nm:ByteArray} {l:List Dt} {x y:Int} {cs:List Value} {F:List Nat} (h:Ow w (dirD nm l x y) cs F) :
  ∃ a c,cs = [.string nm,.slice a l.length c,.int .i64 x,.int .i64 y] ∧ l.length ≤ c ∧ c ≤ maxLen ∧ Ls w 10 l a F:=by
 unfold dirD Ow at h
 obtain ⟨d0,rfl,_,h⟩:=h
 unfold Ow at h
 obtain ⟨a,n,c,d1,F1,F2,rfl,i1,i2,i3,i4,h,rfl⟩:=h
 obtain ⟨rfl,hl⟩:=lst_ls i4
 unfold Ow at h
 obtain ⟨d2,rfl,a6,h⟩:=h
 unfold Ow at h
 obtain ⟨d3,rfl,a7,h⟩:=h
 unfold Ow at h
 obtain ⟨rfl,rfl⟩:=h
 exact ⟨a,c,rfl,i1,i2,hl.mono (fun b hb => List.mem_append_left _ hb)⟩
def SmLs (fn:Nat) (pl:Bool) (k:Nat) (l l':List Dt):Prop:=∀ (w:World) (a a':Option Addr) (c c':Nat) (F G:List Nat),Ls w k l a F → Ls w k l' a' G → (∀ b ∈ F,b < w.heap.size) → (∀ b ∈ G,b < w.heap.size) → l.length ≤ c → l'.length ≤ c' → c ≤ maxLen → c' ≤ maxLen →
 Calls Tryz.prog fn #[.slice a l.length c,.slice a' l'.length c',.bool pl] w fun e w' => e = .returned (.bool true) ∧ Below w.heap.size w w'
def EqT (pl:Bool) (t t':Tk):Prop:=t'.k = t.k ∧ t'.tx = t.tx ∧ t'.va = t.va ∧ (pl = true → t.ln = t'.ln ∧ t.co = t'.co)
structure Sf (pl:Bool) (m s e:Nat) (c c':Cu):Prop where
 ix:c'.ix = c.ix + s
 op:c'.op = c.op + e
 mo:c'.mo = c.mo + e
 kd:c'.kd = c.kd
 tk:∀ i,i ≤ m → EqT pl (c.ts.getD i Tk.zero) (c'.ts.getD (i + s) Tk.zero)
def Ps {A:Type} (e:Nat) (c:Cu) (E:Cu → A × Cu):Prop:=e = 0 ∨ (Inv c ∧ c.kd = 0 ∧ (E c).2.kd = 0)
section
variable {pl:Bool} {m s e:Nat}
theorem Sf.tok {c c':Cu} (h:Sf pl m s e c c') (hi:c.ix ≤ m):EqT pl c.tok c'.tok:=by
 have:=h.tk c.ix hi
 rw [← h.ix] at this
 exact this
theorem Sf.isP {c c':Cu} (h:Sf pl m s e c c') (hi:c.ix ≤ m) (p:ByteArray):c'.isP p = c.isP p:=by
 have t:=h.tok hi
 unfold Cu.isP
 rw [h.kd,t.1,t.2.1]
theorem Sf.isN {c c':Cu} (h:Sf pl m s e c c') (hi:c.ix ≤ m):c'.isN = c.isN:=by
 have t:=h.tok hi
 unfold Cu.isN
 rw [h.kd,t.1]
theorem Sf.isW {c c':Cu} (h:Sf pl m s e c c') (hi:c.ix ≤ m) (ws:List ByteArray):c'.isW ws = c.isW ws:=by
 have t:=h.tok hi
 unfold Cu.isW
 rw [h.isN hi,t.2.1]
theorem Sf.finB {c c':Cu} (h:Sf pl m s e c c') (hi:c.ix ≤ m):c'.finB = c.finB:=by
 have t:=h.tok hi
 unfold Cu.finB
 rw [h.kd,t.1]
theorem Sf.take {c c':Cu} (h:Sf pl m s e c c'):Sf pl m s e c.take c'.take:=⟨by show c'.ix + 1 = c.ix + 1 + s;rw [h.ix];omega,h.op,h.mo,h.kd,h.tk⟩
theorem Sf.stop {c c':Cu} (h:Sf pl m s e c c') (k:Int):Sf pl m s e (c.stop k) (c'.stop k):=by
 unfold Cu.stop
 rw [h.kd]
 split
 ·exact ⟨h.ix,h.op,h.mo,rfl,h.tk⟩
 ·exact h
theorem Sf.nmC {c c':Cu} (h:Sf pl m s e c c') (so:Bool):Sf pl m s e (c.nmC so) (c'.nmC so):=by
 cases so
 ·exact h.stop 70
 ·exact h.take
theorem Sf.name {c c':Cu} (h:Sf pl m s e c c') (hi:c.ix ≤ m):Sf pl m s e c.name c'.name:=by
 unfold Cu.name
 rw [h.isN hi]
 split
 ·exact h.take
 ·exact h.stop 70
theorem Sf.want {c c':Cu} (h:Sf pl m s e c c') (hi:c.ix ≤ m) (p:ByteArray):Sf pl m s e (c.want p) (c'.want p):=by
 unfold Cu.want
 rw [h.isP hi]
 split
 ·exact h.take
 ·exact h.stop 70
theorem Sf.punct {c c':Cu} (h:Sf pl m s e c c') (hi:c.ix ≤ m) (p:ByteArray):Sf pl m s e (c.punct p) (c'.punct p):=by
 unfold Cu.punct
 rw [h.isP hi]
 split
 ·exact h.take
 ·exact h
theorem Sf.word {c c':Cu} (h:Sf pl m s e c c') (hi:c.ix ≤ m) (q:ByteArray):Sf pl m s e (c.word q) (c'.word q):=by
 unfold Cu.word
 rw [h.isW hi]
 split
 ·exact h.take
 ·exact h
theorem Sf.fin {c c':Cu} (h:Sf pl m s e c c') (hi:c.ix ≤ m):Sf pl m s e c.fin c'.fin:=by
 unfold Cu.fin
 rw [h.finB hi]
 split
 ·exact h
 ·exact h.stop 70
theorem Sf.opB {c c':Cu} (h:Sf pl m s e c c') (hi:c.ix ≤ m) (p:ByteArray):c'.opB p = c.opB p:=by
 unfold Cu.opB
 rw [h.isP hi,h.op,h.mo]
 congr 1
 exact decide_eq_decide.2 (by omega)
theorem Sf.opn {c c':Cu} (h:Sf pl m s e c c') (hi:c.ix ≤ m) (p:ByteArray):Sf pl m s e (c.opn p) (c'.opn p):=by
 unfold Cu.opn
 rw [h.isP hi]
 split
 ·have hx:=h.op
  have hy:=h.mo
  by_cases g:c.op < c.mo
  ·rw [if_pos g,if_pos (by omega)]
   exact ⟨by show c'.ix + 1 = c.ix + 1 + s;rw [h.ix];omega,by show c'.op + 1 = c.op + 1 + e;omega,hy,h.kd,h.tk⟩
  ·rw [if_neg g,if_neg (by omega)]
   exact h.stop 71
 ·exact h.stop 70
theorem Sf.cls {c c':Cu} (h:Sf pl m s e c c') (hi:c.ix ≤ m) (p:ByteArray) (he:e = 0 ∨ 1 ≤ c.op):Sf pl m s e (c.cls p) (c'.cls p):=by
 unfold Cu.cls
 rw [h.isP hi]
 split
 ·have hx:=h.op
  exact ⟨by show c'.ix + 1 = c.ix + 1 + s;rw [h.ix];omega,by show c'.op - 1 = c.op - 1 + e;omega,h.mo,h.kd,h.tk⟩
 ·exact h.stop 70
end
structure Ok4 {A X:Type} (pl:Bool) (m s e:Nat) (P:Prop) (V:A → X → Prop) (E:Cu → A × Cu) (E':Cu → X × Cu) (b b':Nat):Prop where
 o:Ok3 0 E b
 st':St E'
 near:P → ∀ c c',c.Ok → c'.Ok → Sf pl m s e c c' → c.ts.length ≤ b + c.ix → c'.ts.length ≤ b' + c'.ix → Ps e c E → (E c).2.ix ≤ m → V (E c).1 (E' c').1 ∧ Sf pl m s e (E c).2 (E' c').2
structure Ok5 {A X:Type} (pl:Bool) (m s e:Nat) (P:Prop) (V:Option A → Option X → Prop) (E:Cu → Option A × Cu) (E':Cu → Option X × Cu) (b b':Nat):Prop where
 o:Ok3 0 E b
 st':St E'
 go:∀ c,c.Ok → (E c).1.isSome = true → c.ix < (E c).2.ix
 near:P → ∀ c c',c.Ok → c'.Ok → Sf pl m s e c c' → c.ts.length ≤ b + c.ix → c'.ts.length ≤ b' + c'.ix → Ps e c E → (E c).1.isSome = true → (E c).2.ix ≤ m + 1 → V (E c).1 (E' c').1 ∧ Sf pl m s e (E c).2 (E' c').2
section
variable {pl:Bool} {m s e:Nat} {P:Prop} {b b':Nat}
theorem Ps.one {A X:Type} {E:Cu → A × Cu} {F:A → Cu → X × Cu} {c:Cu} (sF:∀ a,Sti (F a)) (h:Ps e c (bnd E F)):Ps e c E:=by
 rcases h with h | ⟨h1,h2,h3⟩
 ·exact .inl h
 ·refine .inr ⟨h1,h2,Classical.byContradiction fun x => ?_⟩
  have h4:(F (E c).1 (E c).2).2.kd = 0:=h3
  rw [sF _ _ x] at h4
  exact x h4
theorem Ps.two {A X:Type} {E:Cu → A × Cu} {F:A → Cu → X × Cu} {c:Cu} (o:Ok3 0 E b) (sF:∀ a,Sti (F a)) (hc:c.Ok) (hb:c.ts.length ≤ b + c.ix) (h:Ps e c (bnd E F)):Ps e (E c).2 (F (E c).1):=by
 have h5:=h.one sF
 rcases h with h | ⟨h1,h2,h3⟩
 ·exact .inl h
 ·rcases h5 with h5 | ⟨_,_,h6⟩
  ·exact .inl h5
  ·exact .inr ⟨(o.bal c hc hb h1 h2 h6).2,h6,h3⟩
theorem Ok4.bnd {A X Y Z:Type} {V:A → X → Prop} {V':Y → Z → Prop} {E:Cu → A × Cu} {E':Cu → X × Cu} {F:A → Cu → Y × Cu} {F':X → Cu → Z × Cu} [Nonempty A] [Nonempty X] (h:Ok4 pl m s e P V E E' b b') (k:∀ a a',Ok4 pl m s e (P ∧ V a a') V' (F a) (F' a') b b'):Ok4 pl m s e P V' (bnd E F) (bnd E' F') b b':=by
 have oF:∀ a,Ok3 0 (F a) b:=fun a => (k a (Classical.choice inferInstance)).o
 have sF':∀ a',St (F' a'):=fun a' => (k (Classical.choice inferInstance) a').st'
 refine ⟨h.o.bnd oF,h.st'.bnd sF',fun hp c c' hc hc' hs hb hb' hP hm => ?_⟩
 have s1:=h.o.st c hc
 have s2:=h.st' c' hc'
 have t1:=(oF (E c).1).st _ s1.ok
 obtain ⟨e1,e2⟩:=h.near hp c c' hc hc' hs hb hb' (hP.one fun a => (oF a).sti) (Nat.le_trans t1.ix hm)
 exact (k (E c).1 (E' c').1).near ⟨hp,e1⟩ (E c).2 (E' c').2 s1.ok s2.ok e2 (by rw [s1.ts];have:=s1.ix;omega) (by rw [s2.ts];have:=s2.ix;omega) (hP.two h.o (fun a => (oF a).sti) hc hb) hm
theorem Ok4.mono {A X:Type} {V:A → X → Prop} {E:Cu → A × Cu} {E':Cu → X × Cu} {d d':Nat} (h:Ok4 pl m s e P V E E' b b') (hd:d ≤ b) (hd':d' ≤ b'):Ok4 pl m s e P V E E' d d':=⟨h.o.mono hd,h.st',fun hp c c' hc hc' hs hb hb' => h.near hp c c' hc hc' hs (by omega) (by omega)⟩
theorem Ok4.wk {A X:Type} {V:A → X → Prop} {E:Cu → A × Cu} {E':Cu → X × Cu} (h:Ok4 pl m s e True V E E' b b'):Ok4 pl m s e P V E E' b b':=⟨h.o,h.st',fun _ => h.near trivial⟩
theorem cond_4 {A X:Type} {V:A → X → Prop} {q q':Bool} {E F:Cu → A × Cu} {E' F':Cu → X × Cu} (hq:P → q = q') (h:Ok4 pl m s e P V E E' b b') (k:Ok4 pl m s e P V F F' b b'):Ok4 pl m s e P V (cond q E F) (cond q' E' F') b b':=by
 refine ⟨cond_3 h.o k.o,by cases q';exact k.st';exact h.st',fun hp => ?_⟩
 obtain rfl:=hq hp
 cases q
 ·exact k.near hp
 ·exact h.near hp
theorem ret_4 {A X:Type} {V:A → X → Prop} {a:A} {x:X} (h:P → V a x):Ok4 pl m s e P V (ret a) (ret x) b b':=⟨ret_3 _,ret_st _,fun hp c c' hc hc' hs hb hb' hP hm => ⟨h hp,hs⟩⟩
theorem tokR_4:Ok4 pl m s e P (EqT pl) tokR tokR b b':=⟨tokR_3,tokR_st,fun hp c c' hc hc' hs hb hb' hP hm => ⟨hs.tok hm,hs⟩⟩
theorem isPR_4 (p:ByteArray):Ok4 pl m s e P Eq (isPR p) (isPR p) b b':=⟨isPR_3 p,isPR_st p,fun hp c c' hc hc' hs hb hb' hP hm => ⟨(hs.isP hm p).symm,hs⟩⟩
theorem aliveR_4:Ok4 pl m s e P Eq aliveR aliveR b b':=⟨aliveR_3,aliveR_st,fun hp c c' hc hc' hs hb hb' hP hm => ⟨by show decide (c.kd = 0) = decide (c'.kd = 0);rw [hs.kd],hs⟩⟩
theorem nR_4:Ok4 pl m s e P Eq nR nR b b':=⟨nR_3,nR_st,fun hp c c' hc hc' hs hb hb' hP hm => by
 have hi:c.ix ≤ m:=Nat.le_trans (name_stp hc).ix hm
 exact ⟨by show (c.isN,c.tok.tx) = (c'.isN,c'.tok.tx);rw [hs.isN hi,(hs.tok hi).2.1],hs.name hi⟩⟩
theorem wantR_4 (p:ByteArray) (hp:dlt (pk p) = 0):Ok4 pl m s e P Eq (wantR p) (wantR p) b b':=⟨wantR_3 p hp,wantR_st p,fun hp c c' hc hc' hs hb hb' hP hm => by
 have hi:c.ix ≤ m:=Nat.le_trans (want_stp hc p).ix hm
 exact ⟨rfl,hs.want hi p⟩⟩
theorem punctR_4 (p:ByteArray) (hp:dlt (pk p) = 0):Ok4 pl m s e P Eq (punctR p) (punctR p) b b':=⟨punctR_3 p hp,punctR_st p,fun hp c c' hc hc' hs hb hb' hP hm => by
 have hi:c.ix ≤ m:=Nat.le_trans (punct_stp hc p).ix hm
 exact ⟨(hs.isP hi p).symm,hs.punct hi p⟩⟩
theorem wordR_4 (q:ByteArray):Ok4 pl m s e P Eq (wordR q) (wordR q) b b':=⟨wordR_3 q,wordR_st q,fun hp c c' hc hc' hs hb hb' hP hm => by
 have hi:c.ix ≤ m:=Nat.le_trans (wordR_st q c hc).ix hm
 exact ⟨(hs.isW hi [q]).symm,hs.word hi q⟩⟩
theorem wwR_4 (ws:List ByteArray):Ok4 pl m s e P Eq (wwR ws) (wwR ws) b b':=⟨wwR_3 ws,wwR_st ws,fun hp c c' hc hc' hs hb hb' hP hm => by
 have hi:c.ix ≤ m:=Nat.le_trans (wwR_st ws c hc).ix hm
 refine ⟨(hs.isW hi ws).symm,?_⟩
 show Sf pl m s e (c.nmC _) (c'.nmC _)
 rw [hs.isW hi ws]
 exact hs.nmC _⟩
theorem stopR_4 {A X:Type} {V:A → X → Prop} {a:A} {x:X} (h:P → V a x):Ok4 pl m s e P V (stopR a) (stopR x) b b':=⟨stopR_3 a,stopR_st x,fun hp c c' hc hc' hs hb hb' hP hm => ⟨h hp,hs.stop 70⟩⟩
theorem takeK_4 (k:Int) (h0:k ≠ 0) (h1:k ≠ 1) (h2:k ≠ 2):Ok4 pl m s e P Eq (takeK k) (takeK k) b b':=⟨takeK_3 k h0 h1 h2,takeK_st k h0 h1,fun hp c c' hc hc' hs hb hb' hP hm => by
 have hi:c.ix ≤ m:=Nat.le_trans (takeK_st k h0 h1 c hc).ix hm
 refine ⟨rfl,?_⟩
 show Sf pl m s e (if c.kd = 0 ∧ c.tok.k = k then c.take else c) (if c'.kd = 0 ∧ c'.tok.k = k then c'.take else c')
 rw [hs.kd,(hs.tok hi).1]
 split
 ·exact hs.take
 ·exact hs⟩
end
end Go.Proofs.YtifbkdicglcogaaGreat.cu
