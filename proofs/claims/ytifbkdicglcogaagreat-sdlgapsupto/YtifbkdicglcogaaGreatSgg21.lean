import Derived.Test.YtifbkdicglcogaaGreatSgg20
import Derived.Lib.AppendStr
set_option linter.unusedVariables false
set_option linter.unusedSimpArgs false
namespace Go.Proofs.YtifbkdicglcogaaGreat.cu
open dt (Dt Kp RowAt Ow Grow)
open mem (decF decZ putB scB Byt posT enB)
open lx (toks chs cln tksG tkG shT cAt ign rdG)
theorem bytesZ_appJ (a b:ByteArray):mem.bytesZ (a ++ b) = mem.bytesZ a ++ mem.bytesZ b:=by simp [mem.bytesZ]
theorem flat_bytJ:∀ zs:List Int,zs.all mem.scB = true → mem.Byt (zs.flatMap mem.putB)
 | [],_ => by intro x hx;cases hx
 | c :: zs,h => by
  rw [List.all_cons,Bool.and_eq_true] at h
  intro x hx
  rw [List.flatMap_cons] at hx
  rcases List.mem_append.1 hx with h1 | h1
  ·exact mem.putB_byt ((mem.scB_iff c).1 h.1) x h1
  ·exact flat_bytJ zs h.2 x h1
theorem tx_bytesS {l:List Int} (hl:l.all scB = true) {cl:Bool} {i:Nat}:mem.bytesZ (tkG l cl i).tx = (txZ l (tkG l cl i)).flatMap putB:=by
 have ha:(txZ l (tkG l cl i)).all scB = true:=by
  rw [List.all_eq_true] at hl ⊢
  intro x hx
  exact hl x (List.mem_of_mem_take (List.mem_of_mem_drop hx))
 show mem.bytesZ (mem.encS (txZ l (tkG l cl i))) = _
 rw [mem.encS_yes ha]
 exact mem.bytesZ_str _ (flat_bytJ _ ha)
theorem tx_allS {l:List Int} (hl:l.all scB = true) (cl:Bool):∀ (q i:Nat) (t:Tk),i ≤ l.length → (tksG l cl i)[q]? = some t → mem.bytesZ t.tx = (txZ l t).flatMap putB
 | 0,i,t,hi,h => by
  have h0:(tksG l cl i)[0]? = some (tkG l cl i):=by
   by_cases he:(tkG l cl i).k = 0 ∨ (tkG l cl i).k = 1
   ·rw [lx.tksG_end he];rfl
   ·rw [lx.tksG_go hi he];rfl
  rw [h0] at h
  obtain rfl:=Option.some.inj h
  exact tx_bytesS hl
 | q + 1,i,t,hi,h => by
  have hle:=lx.tkG_le l cl i hi
  by_cases he:(tkG l cl i).k = 0 ∨ (tkG l cl i).k = 1
  ·rw [lx.tksG_end he] at h;simp at h
  ·rw [lx.tksG_go hi he] at h
   exact tx_allS hl cl q _ t hle.2.1 (by simpa using h)
def kgZ:Nat → List Int
 | 0 => [32]
 | 1 => [44]
 | 2 => [9]
 | 3 => [10]
 | 4 => [13,10]
 | 5 => [65279]
 | _ => [32,35,32,110,111,116,101,32,123,32,10]
def kgB:Nat → ByteArray
 | 0 => ⟨#[32]⟩
 | 1 => ⟨#[44]⟩
 | 2 => ⟨#[9]⟩
 | 3 => ⟨#[10]⟩
 | 4 => ⟨#[13,10]⟩
 | 5 => ⟨#[239,187,191]⟩
 | _ => ⟨#[32,35,32,110,111,116,101,32,123,32,10]⟩
theorem kgB_z (k:Nat):mem.bytesZ (kgB k) = (kgZ k).flatMap putB ∧ (kgB k).size ≤ 11:=by
 match k with
 | 0 => exact ⟨by decide,by decide⟩
 | 1 => exact ⟨by decide,by decide⟩
 | 2 => exact ⟨by decide,by decide⟩
 | 3 => exact ⟨by decide,by decide⟩
 | 4 => exact ⟨by decide,by decide⟩
 | 5 => exact ⟨by decide,by decide⟩
 | n + 6 => exact ⟨(by decide:mem.bytesZ ⟨#[32,35,32,110,111,116,101,32,123,32,10]⟩ = [32,35,32,110,111,116,101,32,123,32,10].flatMap putB),(by decide:(⟨#[32,35,32,110,111,116,101,32,123,32,10]⟩:ByteArray).size ≤ 11)⟩
theorem ign_note:∀ (b R:List Int),(∀ x ∈ b,x ≠ 10 ∧ x ≠ 13 ∧ lx.soB x = true) → ign (b ++ 10 :: R) true 0 = b.length + 1 + ign R false 0
 | [],R,_ => by
  show ign (10 :: R) true 0 = _
  rw [lx.ign_t,at0,if_pos (.inl rfl)]
  have:=lx.ign_shf (lx.Shf.of [10] R) false 0
  exact (show ign (10 :: R) false (0 + 1) = 1 + ign R false 0 from this).trans (by simp)
 | x :: b,R,h => by
  have hx:=h x (List.mem_cons_self ..)
  have ih:=ign_note b R fun y hy => h y (List.mem_cons_of_mem _ hy)
  show ign (x :: (b ++ 10 :: R)) true 0 = _
  rw [lx.ign_t,at0,if_neg (fun e => by rcases e with e | e;exact hx.1 e;exact hx.2.1 e),if_pos hx.2.2]
  have:=lx.ign_shf (lx.Shf.of [x] (b ++ 10 :: R)) true 0
  have e:ign (x :: (b ++ 10 :: R)) true (0 + 1) = 1 + ign (b ++ 10 :: R) true 0:=this
  rw [e,ih,List.length_cons]
  omega
theorem gap_kg (k:Nat):Gap (kgZ k):=by
 match k with
 | 0 => exact gap_one (by decide) (by unfold sepC;omega) (by decide)
 | 1 => exact gap_one (by decide) (by unfold sepC;omega) (by decide)
 | 2 => exact gap_one (by decide) (by unfold sepC;omega) (by decide)
 | 3 => exact gap_one (by decide) (by unfold sepC;omega) (by decide)
 | 4 => exact Gap.app (G:=[13]) (H:=[10]) (gap_one (by decide) (by unfold sepC;omega) (by decide)) (gap_one (by decide) (by unfold sepC;omega) (by decide))
 | 5 => exact gap_one (c:=65279) (by decide) (by unfold sepC;omega) (by decide)
 | n + 6 =>
  refine ⟨fun R => ?_,⟨32,[35,32,110,111,116,101,32,123,32,10],rfl,by unfold sepC;omega⟩,(by decide:([32,35,32,110,111,116,101,32,123,32,10]:List Int).all scB = true)⟩
  show ign (32 :: 35 :: ([32,110,111,116,101,32,123,32] ++ 10 :: R)) false 0 = 11 + ign R false 0
  have hn:=ign_note [32,110,111,116,101,32,123,32] R (by decide)
  obtain ⟨Q,hQ⟩:∃ Q,Q = [32,110,111,116,101,32,123,32] ++ 10 :: R:=⟨_,rfl⟩
  rw [← hQ] at hn ⊢
  rw [ign_step 32 _ (by decide),lx.ign_f,at0]
  show 1 + ign (35 :: Q) true (0 + 1) = _
  have:=lx.ign_shf (lx.Shf.of [35] Q) true 0
  have e:ign (35 :: Q) true (0 + 1) = 1 + ign Q true 0:=this
  rw [e,hn]
  show 1 + (1 + (8 + 1 + ign R false 0)) = 11 + ign R false 0
  omega
def pkN (ps:List Int) (k:Nat):Nat:=if k < ps.length then (((ps.getD k 0).tmod 7 + 7).tmod 7).toNat else 0
def gp2 (ps:List Int):Nat → List Int
 | 0 => [32]
 | k + 1 => kgZ (pkN ps k)
theorem gap_gp2 (ps:List Int):∀ k,Gap (gp2 ps k)
 | 0 => gap_kg 0
 | k + 1 => gap_kg _
def resB (ps:List Int) (ts:List Tk):Nat → ByteArray
 | 0 => ⟨#[]⟩
 | k + 1 => resB ps ts k ++ ((ts.getD k Tk.zero).tx ++ kgB (pkN ps k))
theorem res_bytes {l:List Int} {ps:List Int} {ts:List Tk} (h:∀ (q:Nat) t,ts[q]? = some t → mem.bytesZ t.tx = (txZ l t).flatMap putB):∀ k (hk:k < ts.length),32 :: (mem.bytesZ (resB ps ts k) ++ (txZ l ts[k] ++ farZ l (gp2 ps) (k + 1) (ts.drop (k + 1))).flatMap putB) = (farZ l (gp2 ps) 0 ts).flatMap putB
 | 0,hk => by
  cases ts with
  | nil => exact absurd hk (by simp)
  | cons t ts' =>
   have hp:putB 32 = [32]:=mem.putB_1 (by omega)
   have e:farZ l (gp2 ps) 0 (t :: ts') = (32:Int) :: (txZ l t ++ farZ l (gp2 ps) 1 ts'):=rfl
   rw [e,List.flatMap_cons,hp]
   rfl
 | k + 1,hk => by
  have ih:=res_bytes (ps:=ps) h k (by omega)
  have hd:ts.drop (k + 1) = ts[k + 1] :: ts.drop (k + 1 + 1):=List.drop_eq_getElem_cons hk
  have hg:=List.getElem?_eq_getElem (l:=ts) (i:=k) (by omega)
  have ht:=h k _ hg
  have hgd:ts.getD k Tk.zero = ts[k]:=by rw [List.getD_eq_getElem?_getD,hg];rfl
  rw [← ih,hd]
  show 32 :: (mem.bytesZ (resB ps ts k ++ ((ts.getD k Tk.zero).tx ++ kgB (pkN ps k))) ++ _) = 32 :: (mem.bytesZ (resB ps ts k) ++ (txZ l ts[k] ++ (kgZ (pkN ps k) ++ (txZ l ts[k + 1] ++ farZ l (gp2 ps) (k + 1 + 1) (ts.drop (k + 1 + 1))))).flatMap putB)
  rw [bytesZ_appJ,bytesZ_appJ,hgd,ht,(kgB_z _).1]
  simp [List.flatMap_append]
theorem flat_drop_leS (l:List Int) {a b:Nat} (h:a ≤ b):((l.drop b).flatMap putB).length ≤ ((l.drop a).flatMap putB).length:=by
 have e:l.drop a = (l.drop a).take (b - a) ++ l.drop b:=by
  have:=List.take_append_drop (b - a) (l.drop a)
  rw [List.drop_drop,show a + (b - a) = b by omega] at this
  exact this.symm
 rw [e,List.flatMap_append,List.length_append]
 omega
theorem res_len {l:List Int} {ps:List Int}:∀ (ts:List Tk) (i j:Nat),i ≤ l.length → tksG l true i = ts → ((farZ l (gp2 ps) j ts).flatMap putB).length ≤ 11 * ts.length + ((l.drop i).flatMap putB).length
 | [],i,j,hi,h => by simp [farZ]
 | t :: ts,i,j,hi,h => by
  have hle:=lx.tkG_le l true i hi
  have hF:=lx.ign_le l false i
  have hg:((gp2 ps j).flatMap putB).length ≤ 11:=by
   cases j with
   | zero => have:=kgB_z 0;rw [← (show gp2 ps 0 = kgZ 0 from rfl)] at this;rw [← this.1,mem.bytesZ_len];exact this.2
   | succ j => rw [show gp2 ps (j + 1) = kgZ (pkN ps j) from rfl,← (kgB_z _).1,mem.bytesZ_len];exact (kgB_z _).2
  have ht:t = tkG l true i:=by
   by_cases he:(tkG l true i).k = 0 ∨ (tkG l true i).k = 1
   ·rw [lx.tksG_end he] at h;simp at h;exact h.1.symm
   ·rw [lx.tksG_go hi he] at h;simp at h;exact h.1.symm
  have hfr:i ≤ t.fr:=by rw [ht];exact hF.1
  have hft:t.fr ≤ t.to:=by rw [ht];exact (lx.rdG_le l true (ign l false i) (hF.2 hi)).1
  have hX:((txZ l t).flatMap putB).length + ((l.drop t.to).flatMap putB).length ≤ ((l.drop i).flatMap putB).length:=by
   have e:l.drop t.fr = txZ l t ++ l.drop t.to:=by
    unfold txZ
    rw [List.drop_take]
    have:=List.take_append_drop (t.to - t.fr) (l.drop t.fr)
    rw [List.drop_drop,show t.fr + (t.to - t.fr) = t.to by omega] at this
    exact this.symm
   have h2:=flat_drop_leS l hfr
   rw [e,List.flatMap_append,List.length_append] at h2
   exact h2
  have hrec:((farZ l (gp2 ps) (j + 1) ts).flatMap putB).length ≤ 11 * ts.length + ((l.drop t.to).flatMap putB).length:=by
   by_cases he:(tkG l true i).k = 0 ∨ (tkG l true i).k = 1
   ·rw [lx.tksG_end he] at h
    have:ts = []:=by simp at h;exact h.2
    rw [this]
    simp [farZ]
   ·rw [lx.tksG_go hi he] at h
    have h2:tksG l true (tkG l true i).to = ts:=by simp at h;exact h.2
    rw [ht]
    exact res_len ts _ (j + 1) hle.2.1 h2
  show ((gp2 ps j ++ (txZ l t ++ farZ l (gp2 ps) (j + 1) ts)).flatMap putB).length ≤ _
  rw [List.flatMap_append,List.flatMap_append,List.length_append,List.length_append,List.length_cons]
  omega
theorem res_sc {l:List Int} (hl:l.all scB = true) {ps:List Int}:∀ (ts:List Tk) (j:Nat),(farZ l (gp2 ps) j ts).all scB = true
 | [],j => rfl
 | t :: ts,j => by
  show (gp2 ps j ++ (txZ l t ++ farZ l (gp2 ps) (j + 1) ts)).all scB = true
  have hx:(txZ l t).all scB = true:=by
   rw [List.all_eq_true] at hl ⊢
   exact fun x hx => hl x (List.mem_of_mem_take (List.mem_of_mem_drop hx))
  rw [List.all_append,List.all_append,(gap_gp2 ps j).sc,hx,res_sc hl ts (j + 1)]
  rfl
theorem resB_up (ps:List Int) (ts:List Tk):∀ k m,k ≤ m → (resB ps ts k).size ≤ (resB ps ts m).size
 | k,0,h => by
  obtain rfl:k = 0:=by omega
  exact Nat.le_refl _
 | k,m + 1,h => by
  rcases Nat.lt_or_ge m k with g | g
  ·obtain rfl:k = m + 1:=by omega
   exact Nat.le_refl _
  ·have:=resB_up ps ts k m g
   show _ ≤ (resB ps ts m ++ _).size
   rw [size_app]
   omega
theorem toks_blank (L:List Int):tksG (32 :: L) true 0 = (tksG L true 0).map (shT (32 :: L) 1):=by
 have hi:ign (32 :: L) false 0 = ign (32 :: L) false 1:=by
  rw [lx.ign_f,at0]
  rfl
 have ht:tkG (32 :: L) true 0 = tkG (32 :: L) true 1:=by
  unfold tkG
  rw [hi]
 have h1:tksG (32 :: L) true 0 = tksG (32 :: L) true 1:=by
  by_cases he:(tkG (32 :: L) true 0).k = 0 ∨ (tkG (32 :: L) true 0).k = 1
  ·rw [lx.tksG_end he,lx.tksG_end (by rw [← ht];exact he),ht]
  ·rw [lx.tksG_go (i:=0) (Nat.zero_le _) he,lx.tksG_go (i:=1) (by simp) (by rw [← ht];exact he),ht]
 rw [h1]
 exact lx.tksG_shf (lx.Shf.of [32] L) true (i:=0) (Nat.zero_le _)
theorem res_all (z:List Int) (hz:Byt z) (ps:List Int) {u:Tk} (hu:(toks z)[(toks z).length - 1]? = some u) (hk:u.k = 0) :
  (toks (mem.bytesZ (resB ps (toks z) ((toks z).length - 1)))).length = (toks z).length ∧ (∀ (q:Nat) t,(toks z)[q]? = some t → ∃ t',(toks (mem.bytesZ (resB ps (toks z) ((toks z).length - 1))))[q]? = some t' ∧ EqT false t t') ∧ (resB ps (toks z) ((toks z).length - 1)).size ≤ 11 * (toks z).length + z.length:=by
 have hcl:cln z = true:=tks_zero (chs z) (cln z) _ 0 u (Nat.zero_le _) hu hk
 obtain ⟨hfl,hsc⟩:=clean_flat hz hcl
 have htk:toks z = tksG (chs z) true 0:=by unfold toks;rw [hcl]
 have hpos:0 < (toks z).length:=by
  rcases Nat.eq_zero_or_pos (toks z).length with e | e
  ·rw [e,List.getElem?_eq_none (by omega)] at hu;cases hu
  ·exact e
 have hne:∀ t ∈ toks z,t.k ≠ 1:=fun t ht e => by
  obtain ⟨q,hq,rfl⟩:=List.getElem_of_mem ht
  have hq':=List.getElem?_eq_getElem hq
  have h9:(toks z).length = q + 1:=tks_last3 (chs z) (cln z) q 0 _ (Nat.zero_le _) hq' (.inr e)
  rw [show (toks z).length - 1 = q by omega,hq'] at hu
  have:=Option.some.inj hu
  rw [this,hk] at e
  exact absurd e (by decide)
 have htx:∀ (q:Nat) t,(toks z)[q]? = some t → mem.bytesZ t.tx = (txZ (chs z) t).flatMap putB:=fun q t h => by
  rw [htk] at h
  exact tx_allS hsc true q 0 t (Nat.zero_le _) h
 have hlt:(toks z).length - 1 < (toks z).length:=by omega
 have hB:=res_bytes (ps:=ps) htx ((toks z).length - 1) hlt
 have hxu:txZ (chs z) u = []:=by
  have hz0:mem.bytesZ u.tx = []:=by
   have hgu:(tksG (chs z) true 0)[(toks z).length - 1]? = some u:=by rw [← htk];exact hu
   have key:∀ (q i:Nat),i ≤ (chs z).length → (tksG (chs z) true i)[q]? = some u → txZ (chs z) u = []:=by
    intro q
    induction q with
    | zero =>
     intro i hi hq
     have h0:(tksG (chs z) true i)[0]? = some (tkG (chs z) true i):=by
      by_cases he:(tkG (chs z) true i).k = 0 ∨ (tkG (chs z) true i).k = 1
      ·rw [lx.tksG_end he];rfl
      ·rw [lx.tksG_go hi he];rfl
     rw [h0] at hq
     have h1:=Option.some.inj hq
     have hF:=(lx.ign_le (chs z) false i).2 hi
     have hzz:=lx.rdG_zero hF (by rw [← h1] at hk;exact hk)
     have hrd:rdG (chs z) true (ign (chs z) false i) = (0,ign (chs z) false i,lx.E0):=by unfold rdG;rw [if_pos hzz]
     rw [← h1]
     show ((chs z).take (rdG (chs z) true (ign (chs z) false i)).2.1).drop (ign (chs z) false i) = []
     rw [hrd]
     simp
    | succ q ih =>
     intro i hi hq
     have hle:=lx.tkG_le (chs z) true i hi
     by_cases he:(tkG (chs z) true i).k = 0 ∨ (tkG (chs z) true i).k = 1
     ·rw [lx.tksG_end he] at hq;simp at hq
     ·rw [lx.tksG_go hi he] at hq
      exact ih _ hle.2.1 (by simpa using hq)
   rw [htx _ u hu,key _ 0 (Nat.zero_le _) hgu]
   rfl
  have hflat:=htx _ u hu
  rw [hz0] at hflat
  have hle:(txZ (chs z) u).length ≤ ((txZ (chs z) u).flatMap putB).length:=mem.flat_ge _
  rw [← hflat] at hle
  exact List.eq_nil_of_length_eq_zero (by simpa using hle)
 have hgu:(toks z)[(toks z).length - 1] = u:=by
  have:=List.getElem?_eq_getElem hlt
  rw [hu] at this
  exact (Option.some.inj this).symm
 have hdn:(toks z).drop ((toks z).length - 1 + 1) = []:=List.drop_eq_nil_of_le (by omega)
 rw [hgu,hxu,hdn] at hB
 have hB':32 :: mem.bytesZ (resB ps (toks z) ((toks z).length - 1)) = (farZ (chs z) (gp2 ps) 0 (toks z)).flatMap putB:=by
  rw [← hB]
  simp [farZ]
 have hhd:∃ L,farZ (chs z) (gp2 ps) 0 (toks z) = 32 :: L:=by
  cases ht:toks z with
  | nil => rw [ht] at hpos;exact absurd hpos (by decide)
  | cons t ts => exact ⟨_,rfl⟩
 obtain ⟨L,hL⟩:=hhd
 have hscF:=res_sc hsc (ps:=ps) (toks z) 0
 rw [hL] at hscF hB'
 have hscL:L.all scB = true:=by rw [List.all_cons,Bool.and_eq_true] at hscF;exact hscF.2
 have hp:putB 32 = [32]:=mem.putB_1 (by omega)
 have hR:mem.bytesZ (resB ps (toks z) ((toks z).length - 1)) = L.flatMap putB:=by
  rw [List.flatMap_cons,hp] at hB'
  simpa using hB'
 obtain ⟨q1,q2⟩:=chs_flat hscL
 have hT:toks (mem.bytesZ (resB ps (toks z) ((toks z).length - 1))) = tksG L true 0:=by
  rw [hR]
  show tksG (chs _) (cln _) 0 = _
  rw [q1,q2]
 have hft:=far_toks (l:=chs z) (gp:=gp2 ps) (gap_gp2 ps) (toks z) 0 0 (Nat.zero_le _) htk.symm hne
 rw [hL,toks_blank] at hft
 rw [hT]
 refine ⟨by rw [← hft.1];simp,fun q t h => ?_,?_⟩
 ·obtain ⟨t',y1,y2⟩:=hft.2 q t h
  rw [List.getElem?_map] at y1
  cases hq:(tksG L true 0)[q]? with
  | none => rw [hq] at y1;cases y1
  | some t2 =>
   rw [hq] at y1
   obtain rfl:=Option.some.inj y1
   exact ⟨t2,rfl,y2.1,y2.2.1,y2.2.2.1,fun e => by cases e⟩
 ·have h1:=res_len (l:=chs z) (ps:=ps) (toks z) 0 0 (Nat.zero_le _) htk.symm
  rw [hL,← hB',List.drop_zero,← hfl,List.length_cons,mem.bytesZ_len] at h1
  omega
theorem sdoc_alike (z z':List Int) (d:Int) (hl:(toks z').length = (toks z).length) (h:∀ (q:Nat) t,(toks z)[q]? = some t → ∃ t',(toks z')[q]? = some t' ∧ EqT false t t') :
  ((∃ r r' f,(sdocG z d).1 = some r ∧ (sdocG z' d).1 = some r' ∧ EqLs (EqD false f) r r') ∨ ((sdocG z d).1 = none ∧ (sdocG z' d).1 = none)) ∧ (sdocG z' d).2.kd = (sdocG z d).2.kd ∧ (sdocG z' d).2.ix = (sdocG z d).2.ix:=by
 have hok:=newG_ok' z d
 have hst:Stp (newG z d) (sdocG z d).2:=sdoc_stp _ hok
 have hs:Sf false (sdocG z d).2.ix 0 0 (newG z d) (newG z' d):=⟨rfl,rfl,rfl,rfl,fun i hi => by
  have hlt:=hst.ok.lt
  rw [hst.ts] at hlt
  have hlt2:i < (toks z).length:=Nat.lt_of_le_of_lt hi hlt
  obtain ⟨t',h1,h2⟩:=h i _ (List.getElem?_eq_getElem hlt2)
  show EqT false ((toks z).getD i Tk.zero) ((toks z').getD (i + 0) Tk.zero)
  rw [Nat.add_zero,List.getD_eq_getElem?_getD,List.getD_eq_getElem?_getD,h1,List.getElem?_eq_getElem hlt2]
  exact h2⟩
 obtain ⟨h1,h2⟩:=sdocS_4 (newG z d) (newG z' d) hok (newG_ok' z' d) hs (Nat.le_refl _)
 refine ⟨?_,h2.kd,h2.ix⟩
 rcases h1 with ⟨r,r',a,b,c⟩ | h1
 ·exact .inl ⟨r,r',_,a,b,c⟩
 ·exact .inr h1
open Go.ChangeShapes Go.WideShapes Go.ChangeAt Go.RowKit
open ints (Hi uh)
open dt (Dt Kp RowAt Ow Grow OwIn)
open mem (Row)
open lx (toks chs cln)
theorem strCells_z (s:ByteArray):Lib.strCells s = (mem.bytesZ s).map (Value.int .u8):=by simp [Lib.strCells,mem.bytesZ]
theorem strCells_app (a b:ByteArray):Lib.strCells (a ++ b) = Lib.strCells a ++ Lib.strCells b:=by rw [strCells_z,strCells_z,strCells_z,bytesZ_appJ,List.map_append]
theorem own_asS {w:World} {base n n':Nat} {T:TypeId} {v:Value} {xs xs':List Value} (h:w.ownsRow base T 1 v n xs) (hn:n = n') (hx:xs = xs'):w.ownsRow base T 1 v n' xs':=by subst hn;subst hx;exact h
theorem row_belowS {w w':World} {base n:Nat} {T:TypeId} {v:Value} {xs:List Value} (hb:base ≤ w.heap.size) (hown:w.ownsRow base T 1 v n xs) (hg:w.grownBy w' v.ownBlock):Below base w w':=
 (Below.refl base w).grown hg hb (fun k hk => by
  rcases hown.2 with ⟨hv,_⟩ | ⟨g,cap,cur,hv,hle,_⟩
  ·rw [hv] at hk;cases hk
  ·rw [hv] at hk;obtain rfl:=Option.some.inj hk;exact hle)
def gapsA:Array Value:=#[.string ⟨#[32]⟩,.string ⟨#[44]⟩,.string ⟨#[9]⟩,.string ⟨#[10]⟩,.string ⟨#[13,10]⟩,.string ⟨#[239,187,191]⟩,.string ⟨#[32,35,32,110,111,116,101,32,123,32,10]⟩]
theorem gaps_at {w:World} {b:Nat} {T:TypeId} {fr:Nat × Nat} (h:w.heap[b]? = some (.cells gapsA T fr)):∀ q,q < 7 → w.cell? ⟨b,q,none⟩ = some (.string (kgB q))
 | 0,_ => (dt.cell_cells h 0).trans rfl
 | 1,_ => (dt.cell_cells h 1).trans rfl
 | 2,_ => (dt.cell_cells h 2).trans rfl
 | 3,_ => (dt.cell_cells h 3).trans rfl
 | 4,_ => (dt.cell_cells h 4).trans rfl
 | 5,_ => (dt.cell_cells h 5).trans rfl
 | 6,_ => (dt.cell_cells h 6).trans rfl
 | q + 7,h => by omega
set_option maxHeartbeats 4000000 in
set_option maxRecDepth 4000 in
theorem respaced_ok (p n cap:Nat) (ts:List Tk) (a2:Option Addr) (n2 c2:Nat) (ps:List Int) (w:World) (hn:ts.length = n) (hn1:1 ≤ n) (hn2:n ≤ 4294967296) (hsz:(resB ps ts (n - 1)).size ≤ 1073741824) (hp:p < w.heap.size) (hrows:∀ i u,ts[i]? = some u → RowAt w p (i * 7) u.cells) (hps:Row .i64 w a2 n2 c2 ps) (hpn:n2 ≤ 1048576) (hpr:∀ x ∈ ps,-9223372036854775808 ≤ x ∧ x ≤ 9223372036854775807) :
  Calls Tryz.prog 17 #[.slice (some ⟨p,0,none⟩) n cap,.slice a2 n2 c2] w fun e w' => ∃ v,e = .returned v ∧ w'.ownsRow w.heap.size 5 1 v (resB ps ts (n - 1)).size (Lib.strCells (resB ps ts (n - 1))) ∧ Below w.heap.size w w':=by
 obtain ⟨i0,hi8,hz8,hs8,hy8⟩:=info_parts mem.info8
 have H8:=Hi (And.intro hi8 (And.intro hz8 (And.intro hs8 hy8)))
 have hR0:=Hi hrows
 have HN:=Hi hn
 have HPS:=Hi (And.intro hps hpr)
 have HSZ:=Hi (fun k (hk:k ≤ n - 1) => Nat.le_trans (resB_up ps ts k (n - 1) hk) hsz)
 clear hrows hn hps hpr hsz hi8 hz8 hs8 hy8
 go_enter Tryz.func17,Tryz.ntmps17
 go_wp2_with fail
 obtain ⟨W0,hW0⟩:∃ W0,W0 = w.alloc (.cells gapsA 9):=⟨_,rfl⟩
 have b0:Below w.heap.size w W0:=by rw [hW0];exact ba
 have g0:W0.heap[w.heap.size]? = some (.cells gapsA 9 (0,0)):=by rw [hW0];exact heap_alloc_new _ _
 have z0:w.heap.size + 1 = W0.heap.size:=by rw [hW0];simp
 have hW0':w.alloc (.cells #[.string ⟨#[32]⟩,.string ⟨#[44]⟩,.string ⟨#[9]⟩,.string ⟨#[10]⟩,.string ⟨#[13,10]⟩,.string ⟨#[239,187,191]⟩,.string ⟨#[32,35,32,110,111,116,101,32,123,32,10]⟩] 9) = W0:=hW0.symm
 rw [hW0']
 clear hW0 hW0'
 have HG0:=Hi (And.intro g0 b0)
 go_loopw [6,7] (fun ov i wr => ∃ k:Nat,k ≤ n - 1 ∧ i = .int .i64 k ∧ wr.ownsRow W0.heap.size 5 1 ov (resB ps ts k).size (Lib.strCells (resB ps ts k)) ∧ Below W0.heap.size W0 wr) (fun _ i _ => n - (intOf i).toNat)
 case atStart => exact ⟨0,Nat.zero_le _,rfl,⟨rfl,.inl ⟨rfl,rfl⟩⟩,Below.refl _ _⟩
 case round =>
  obtain ⟨k,hk,rfl,hown,hI⟩:=hrel
  by_cases hkn:k + 1 < n
  ·have ki:(k:Int) + 1 < (n:Int):=by omega
   have kj:(k:Int) < (n:Int):=by omega
   have hkl:k < ts.length:=by rw [uh HN];omega
   have hget:=List.getElem?_eq_getElem hkl
   have hgd:ts.getD k Tk.zero = ts[k]:=by rw [List.getD_eq_getElem?_getD,hget];rfl
   obtain ⟨u,hu⟩:∃ u,u = ts[k]:=⟨_,rfl⟩
   rw [← hu] at hget hgd
   clear hu
   have hrow7:=(uh hR0) k u hget
   unfold Tk.cells at hrow7
   obtain ⟨g0,b0⟩:=uh HG0
   have m5:wr.cell? ⟨p,k * 7 + 5,none⟩ = some (.string u.tx):=(hI.cell (p:=⟨p,k * 7 + 5,none⟩) (show p < W0.heap.size by omega)).trans ((b0.cell (p:=⟨p,k * 7 + 5,none⟩) hp).trans (hrow7 5 _ rfl))
   have hst:resB ps ts (k + 1) = resB ps ts k ++ (u.tx ++ kgB (pkN ps k)):=by rw [← hgd];rfl
   have hsz:=(uh HSZ) (k + 1) (by omega)
   rw [hst,size_app,size_app] at hsz
   have HST:=Hi hst
   have zI:=hI.size
   have hpk:pkN ps k < 7:=by
    unfold pkN
    split
    ·have h1:=Int.tmod_lt_of_pos (((ps.getD k 0).tmod 7 + 7)) (show (0:Int) < 7 by omega)
     omega
    ·omega
   have hgq:∀ W,Below W0.heap.size W0 W → W.cell? ⟨w.heap.size,pkN ps k,none⟩ = some (.string (kgB (pkN ps k))):=fun W hb => gaps_at ((hb.block w.heap.size (by omega)).trans g0) _ hpk
   have HGQ:=Hi hgq
   obtain ⟨S,hS⟩:∃ S,S = resB ps ts k:=⟨_,rfl⟩
   rw [← hS] at hown hsz HST
   have Hown:=Hi hown
   have HIh:=Hi hI
   clear hown hgq g0 b0 hrow7 hget hgd hkl hS hst
   by_cases hk2:k < n2
   ·have k2:(k:Int) < (n2:Int):=by omega
    obtain ⟨hps,hpr⟩:=uh HPS
    obtain ⟨b2,o2,rfl,hb2,hc2⟩:=hps.at_.resolve_left (fun e => by omega)
    have hx:wr.cell? ⟨b2,o2 + k,none⟩ = some (.int .i64 (ps.getD k 0)):=((uh HIh).cell (p:=⟨b2,o2 + k,none⟩) (show b2 < W0.heap.size by omega)).trans (((uh HG0).2.cell (p:=⟨b2,o2 + k,none⟩) hb2).trans (hc2 k hk2))
    have hpe:pkN ps k = (((ps.getD k 0).tmod 7 + 7).tmod 7).toNat:=by unfold pkN;rw [if_pos (by rw [hps.len];exact hk2)]
    obtain ⟨x,hxe⟩:∃ x,x = ps.getD k 0:=⟨_,rfl⟩
    rw [← hxe] at hx hpe
    have y1:-7 < x.tmod 7 ∧ x.tmod 7 < 7:=⟨by have:=Int.lt_tmod_of_pos x (show (0:Int) < 7 by omega);omega,Int.tmod_lt_of_pos x (by omega)⟩
    obtain ⟨y,hy⟩:∃ y,x.tmod 7 = y:=⟨_,rfl⟩
    rw [hy] at hpe y1
    have y2:IntKind.i64.wrap (y + 7) = y + 7:=by rw [IntKind.wrap_i64];omega
    have y3:(y + 7).tmod 7 = ((pkN ps k:Nat):Int):=by
     have h1:0 ≤ (y + 7).tmod 7:=Int.tmod_nonneg _ (by omega)
     omega
    have y4:IntKind.i64.wrap y = y:=by rw [IntKind.wrap_i64];omega
    obtain ⟨q,hq⟩:∃ q,q = pkN ps k:=⟨_,rfl⟩
    rw [← hq] at y3 hpk HGQ hsz HST
    have qi:(q:Int) < 7:=by omega
    have y5:IntKind.i64.wrap (q:Int) = (q:Int):=by rw [IntKind.wrap_i64];omega
    clear hc2 hpe hxe hps hpr hq
    go_wp2_with (first
     | (at_builtin;refine Lib.wpList_append_own_string _ rfl (.tmp 34) _ 22 9 rfl W0.heap.size 5 i0 Tryz.underlying22 Tryz.underlying9 (uh H8).1 (uh H8).2.1 (uh H8).2.2.1 (uh H8).2.2.2 _ _ _ rfl (uh Hown) u.tx rfl (by unfold maxLen;omega) (by omega) zI ?_;intro sl1 w1 ho1 hg1 _;have bA:=row_belowS zI (uh Hown) hg1;have Ho1:=Hi ho1;have HI1:=Hi ((uh HIh).trans bA);have z1:=bA.size;have gq:=(uh HGQ) w1 (uh HI1);have z1':W0.heap.size ≤ w1.heap.size:=Nat.le_trans zI z1;clear ho1 hg1 bA)
     | (at_builtin;refine Lib.wpList_append_own_string _ rfl (.tmp 41) _ 22 9 rfl W0.heap.size 5 i0 Tryz.underlying22 Tryz.underlying9 (uh H8).1 (uh H8).2.1 (uh H8).2.2.1 (uh H8).2.2.2 _ _ _ rfl (uh Ho1) (kgB q) rfl (by unfold maxLen;omega) (by omega) z1' ?_;intro sl2 w2 ho2 hg2 _;have bB:=row_belowS z1' (uh Ho1) hg2;have Ho2:=Hi ho2;have HI2:=Hi ((uh HI1).trans bB);clear ho2 hg2 bB))
    go_roundw
    case rel => (
     refine ⟨k + 1,by omega,by go_num,?_,uh HI2⟩
     rw [uh HST]
     exact own_asS (uh Ho2) (by rw [size_app,size_app];omega) (by rw [strCells_app,strCells_app,List.append_assoc]))
    case measure => first | (simp [intOf];omega) | simp [intOf]
   ·have k2:¬ (k:Int) < (n2:Int):=by omega
    have hpe:pkN ps k = 0:=by unfold pkN;rw [if_neg (by rw [(uh HPS).1.len];exact hk2)]
    rw [hpe] at hpk HGQ hsz HST
    go_wp2_with (first
     | (at_builtin;refine Lib.wpList_append_own_string _ rfl (.tmp 34) _ 22 9 rfl W0.heap.size 5 i0 Tryz.underlying22 Tryz.underlying9 (uh H8).1 (uh H8).2.1 (uh H8).2.2.1 (uh H8).2.2.2 _ _ _ rfl (uh Hown) u.tx rfl (by unfold maxLen;omega) (by omega) zI ?_;intro sl1 w1 ho1 hg1 _;have bA:=row_belowS zI (uh Hown) hg1;have Ho1:=Hi ho1;have HI1:=Hi ((uh HIh).trans bA);have z1:=bA.size;have gq:=(uh HGQ) w1 (uh HI1);have z1':W0.heap.size ≤ w1.heap.size:=Nat.le_trans zI z1;clear ho1 hg1 bA)
     | (at_builtin;refine Lib.wpList_append_own_string _ rfl (.tmp 41) _ 22 9 rfl W0.heap.size 5 i0 Tryz.underlying22 Tryz.underlying9 (uh H8).1 (uh H8).2.1 (uh H8).2.2.1 (uh H8).2.2.2 _ _ _ rfl (uh Ho1) (kgB 0) rfl (by unfold maxLen;omega) (by omega) z1' ?_;intro sl2 w2 ho2 hg2 _;have bB:=row_belowS z1' (uh Ho1) hg2;have Ho2:=Hi ho2;have HI2:=Hi ((uh HI1).trans bB);clear ho2 hg2 bB))
    go_roundw
    case rel => (
     refine ⟨k + 1,by omega,by go_num,?_,uh HI2⟩
     rw [uh HST]
     exact own_asS (uh Ho2) (by rw [size_app,size_app];omega) (by rw [strCells_app,strCells_app,List.append_assoc]))
    case measure => first | (simp [intOf];omega) | simp [intOf]
  ·have hke:k = n - 1:=by omega
   have ki:¬ ((k:Int) + 1 < (n:Int)):=by omega
   subst hke
   have hI9:=Hi (And.intro hown hI)
   clear hkn hown hI hR0 HN HPS HSZ
   go_wp2_with fail
   go_ret
   obtain ⟨hown,hI⟩:=uh hI9
   obtain ⟨g0,b0⟩:=uh HG0
   exact ⟨_,rfl,⟨hown.1,by
    rcases hown.2 with h | ⟨g,cp,cur,e1,e2,e3⟩
    ·exact .inl h
    ·exact .inr ⟨g,cp,cur,e1,by omega,e3⟩⟩,b0.trans (hI.mono b0.size)⟩
def LsC (w:World) (k:Nat) (l:List Dt) (a:Option Addr) (c:Nat) (F:List Nat):Prop:=Ls w k l a F ∧ l.length ≤ c ∧ c ≤ maxLen
theorem nam_cells {w:World} {m:Nm} {cs:List Value} {F:List Nat} (h:Ow w (namD m) cs F) :
  cs = [.string m.1,.int .i64 m.2.1,.int .i64 m.2.2]:=by
 unfold namD Ow at h
 obtain ⟨d0,rfl,v0,h⟩:=h
 unfold Ow at h
 obtain ⟨d1,rfl,v1,h⟩:=h
 unfold Ow at h
 obtain ⟨d2,rfl,v2,h⟩:=h
 unfold Ow at h
 obtain ⟨rfl,rfl⟩:=h
 rfl
theorem roo_cells {w:World} {k:Int} {ty:ByteArray} {x y:Int} {cs:List Value} {F:List Nat} (h:Ow w (rooD k ty x y) cs F) :
  cs = [.int .i64 k,.string ty,.int .i64 x,.int .i64 y]:=by
 unfold rooD Ow at h
 obtain ⟨d0,rfl,v0,h⟩:=h
 unfold Ow at h
 obtain ⟨d1,rfl,v1,h⟩:=h
 unfold Ow at h
 obtain ⟨d2,rfl,v2,h⟩:=h
 unfold Ow at h
 obtain ⟨d3,rfl,v3,h⟩:=h
 unfold Ow at h
 obtain ⟨rfl,rfl⟩:=h
 rfl
theorem cho_cells {w:World} {n:Nt} {m:Nm} {ds:List Dt} {cs:List Value} {F:List Nat} (h:Ow w (choD n m ds) cs F) :
  ∃ a1 c1,cs = [.bool n.1,.bool n.2.1,.string n.2.2,.string m.1,.slice a1 ds.length c1,.int .i64 m.2.1,.int .i64 m.2.2] ∧ LsC w 4 ds a1 c1 F:=by
 unfold choD ntD Ow at h
 obtain ⟨d0,rfl,v0,h⟩:=h
 unfold Ow at h
 obtain ⟨d1,rfl,v1,h⟩:=h
 unfold Ow at h
 obtain ⟨d2,rfl,v2,h⟩:=h
 unfold Ow at h
 obtain ⟨d3,rfl,v3,h⟩:=h
 unfold Ow at h
 obtain ⟨a1,na1,c1,d4,F4,G4,rfl,i4,j4,k4,m4,h,rfl⟩:=h
 obtain ⟨rfl,l4⟩:=lst_ls m4
 unfold Ow at h
 obtain ⟨d5,rfl,v5,h⟩:=h
 unfold Ow at h
 obtain ⟨d6,rfl,v6,h⟩:=h
 unfold Ow at h
 obtain ⟨rfl,rfl⟩:=h
 exact ⟨a1,c1,rfl,⟨l4.mono (fun b hb => List.mem_append_left _ hb),i4,j4⟩⟩
theorem inp_cells {w:World} {n:Nt} {m:Nm} {tn tw:ByteArray} {hd:Bool} {k:Int} {tx:ByteArray} {bl:Bool} {its fls:Dt} {ln co:Int} {ds:List Dt} {cs:List Value} {F:List Nat} (h:Ow w (inpD n m tn tw hd (litD k tx bl its fls ln co) ds) cs F) :
  ∃ ai nai ci af naf cf a1 c1 G,cs = [.bool n.1,.bool n.2.1,.string n.2.2,.string m.1,.string tn,.string tw,.bool hd,.int .i64 k,.string tx,.bool bl,.slice ai nai ci,.slice af naf cf,.int .i64 ln,.int .i64 co,.slice a1 ds.length c1,.int .i64 m.2.1,.int .i64 m.2.2] ∧ Ow w (litD k tx bl its fls ln co) [.int .i64 k,.string tx,.bool bl,.slice ai nai ci,.slice af naf cf,.int .i64 ln,.int .i64 co] G ∧ (∀ b ∈ G,b ∈ F) ∧ LsC w 4 ds a1 c1 F:=by
 unfold inpD ntD litD at h
 simp only [app] at h
 unfold Ow at h
 obtain ⟨d0,rfl,v0,h⟩:=h
 unfold Ow at h
 obtain ⟨d1,rfl,v1,h⟩:=h
 unfold Ow at h
 obtain ⟨d2,rfl,v2,h⟩:=h
 unfold Ow at h
 obtain ⟨d3,rfl,v3,h⟩:=h
 unfold Ow at h
 obtain ⟨d4,rfl,v4,h⟩:=h
 unfold Ow at h
 obtain ⟨d5,rfl,v5,h⟩:=h
 unfold Ow at h
 obtain ⟨d6,rfl,v6,h⟩:=h
 unfold Ow at h
 obtain ⟨d7,rfl,v7,h⟩:=h
 unfold Ow at h
 obtain ⟨d8,rfl,v8,h⟩:=h
 unfold Ow at h
 obtain ⟨d9,rfl,v9,h⟩:=h
 unfold Ow at h
 obtain ⟨ai,nai,ci,d10,F10,G10,rfl,i10,j10,k10,m10,h,rfl⟩:=h
 unfold Ow at h
 obtain ⟨af,naf,cf,d11,F11,G11,rfl,i11,j11,k11,m11,h,rfl⟩:=h
 unfold Ow at h
 obtain ⟨d12,rfl,v12,h⟩:=h
 unfold Ow at h
 obtain ⟨d13,rfl,v13,h⟩:=h
 unfold Ow at h
 obtain ⟨a1,na1,c1,d14,F14,G14,rfl,i14,j14,k14,m14,h,rfl⟩:=h
 obtain ⟨rfl,l14⟩:=lst_ls m14
 unfold Ow at h
 obtain ⟨d15,rfl,v15,h⟩:=h
 unfold Ow at h
 obtain ⟨d16,rfl,v16,h⟩:=h
 unfold Ow at h
 obtain ⟨rfl,rfl⟩:=h
 refine ⟨ai,nai,ci,af,naf,cf,a1,c1,F10 ++ (F11 ++ []),rfl,?_,?_,⟨l14.mono (fun b hb => List.mem_append_right _ (List.mem_append_right _ (List.mem_append_left _ hb))),i14,j14⟩⟩
 ·unfold litD Ow
  refine ⟨_,rfl,v7,?_⟩
  unfold Ow
  refine ⟨_,rfl,v8,?_⟩
  unfold Ow
  refine ⟨_,rfl,v9,?_⟩
  unfold Ow
  refine ⟨ai,nai,ci,_,F10,F11 ++ [],rfl,i10,j10,k10,m10,?_,rfl⟩
  unfold Ow
  refine ⟨af,naf,cf,_,F11,[],rfl,i11,j11,k11,m11,?_,rfl⟩
  unfold Ow
  refine ⟨_,rfl,v12,?_⟩
  unfold Ow
  refine ⟨_,rfl,v13,?_⟩
  unfold Ow
  exact ⟨rfl,rfl⟩
 ·intro b hb
  simp at hb ⊢
  rcases hb with hb | hb
  ·exact .inl hb
  ·exact .inr (.inl hb)
theorem fd_cells {w:World} {n:Nt} {m:Nm} {al:List Dt} {tn tw:ByteArray} {ds:List Dt} {cs:List Value} {F:List Nat} (h:Ow w (fdD n m al tn tw ds) cs F) :
  ∃ a1 c1 a2 c2,cs = [.bool n.1,.bool n.2.1,.string n.2.2,.string m.1,.slice a1 al.length c1,.string tn,.string tw,.slice a2 ds.length c2,.int .i64 m.2.1,.int .i64 m.2.2] ∧ LsC w 17 al a1 c1 F ∧ LsC w 4 ds a2 c2 F:=by
 unfold fdD ntD Ow at h
 obtain ⟨d0,rfl,v0,h⟩:=h
 unfold Ow at h
 obtain ⟨d1,rfl,v1,h⟩:=h
 unfold Ow at h
 obtain ⟨d2,rfl,v2,h⟩:=h
 unfold Ow at h
 obtain ⟨d3,rfl,v3,h⟩:=h
 unfold Ow at h
 obtain ⟨a1,na1,c1,d4,F4,G4,rfl,i4,j4,k4,m4,h,rfl⟩:=h
 obtain ⟨rfl,l4⟩:=lst_ls m4
 unfold Ow at h
 obtain ⟨d5,rfl,v5,h⟩:=h
 unfold Ow at h
 obtain ⟨d6,rfl,v6,h⟩:=h
 unfold Ow at h
 obtain ⟨a2,na2,c2,d7,F7,G7,rfl,i7,j7,k7,m7,h,rfl⟩:=h
 obtain ⟨rfl,l7⟩:=lst_ls m7
 unfold Ow at h
 obtain ⟨d8,rfl,v8,h⟩:=h
 unfold Ow at h
 obtain ⟨d9,rfl,v9,h⟩:=h
 unfold Ow at h
 obtain ⟨rfl,rfl⟩:=h
 exact ⟨a1,c1,a2,c2,rfl,⟨l4.mono (fun b hb => List.mem_append_left _ hb),i4,j4⟩,⟨l7.mono (fun b hb => List.mem_append_right _ (List.mem_append_left _ hb)),i7,j7⟩⟩
theorem sy_cells {w:World} {s:Sy} {cs:List Value} {F:List Nat} (h:Ow w (s.d) cs F) :
  ∃ a1 c1 a2 c2 a3 c3 a4 c4 a5 c5 a6 c6 a7 c7 a8 c8,cs = [.int .i64 s.k,.bool s.ex,.bool s.n.1,.bool s.n.2.1,.string s.n.2.2,.string s.nm,.slice a1 s.ifs.length c1,.slice a2 s.ds.length c2,.slice a3 s.fs.length c3,.slice a4 s.ins.length c4,.slice a5 s.ms.length c5,.slice a6 s.vs.length c6,.slice a7 s.rs.length c7,.bool s.rp,.slice a8 s.ps.length c8,.int .i64 s.ln,.int .i64 s.co] ∧ LsC w 3 s.ifs a1 c1 F ∧ LsC w 4 s.ds a2 c2 F ∧ LsC w 10 s.fs a3 c3 F ∧ LsC w 17 s.ins a4 c4 F ∧ LsC w 3 s.ms a5 c5 F ∧ LsC w 7 s.vs a6 c6 F ∧ LsC w 4 s.rs a7 c7 F ∧ LsC w 3 s.ps a8 c8 F:=by
 unfold Sy.d ntD Ow at h
 obtain ⟨d0,rfl,v0,h⟩:=h
 unfold Ow at h
 obtain ⟨d1,rfl,v1,h⟩:=h
 unfold Ow at h
 obtain ⟨d2,rfl,v2,h⟩:=h
 unfold Ow at h
 obtain ⟨d3,rfl,v3,h⟩:=h
 unfold Ow at h
 obtain ⟨d4,rfl,v4,h⟩:=h
 unfold Ow at h
 obtain ⟨d5,rfl,v5,h⟩:=h
 unfold Ow at h
 obtain ⟨a1,na1,c1,d6,F6,G6,rfl,i6,j6,k6,m6,h,rfl⟩:=h
 obtain ⟨rfl,l6⟩:=lst_ls m6
 unfold Ow at h
 obtain ⟨a2,na2,c2,d7,F7,G7,rfl,i7,j7,k7,m7,h,rfl⟩:=h
 obtain ⟨rfl,l7⟩:=lst_ls m7
 unfold Ow at h
 obtain ⟨a3,na3,c3,d8,F8,G8,rfl,i8,j8,k8,m8,h,rfl⟩:=h
 obtain ⟨rfl,l8⟩:=lst_ls m8
 unfold Ow at h
 obtain ⟨a4,na4,c4,d9,F9,G9,rfl,i9,j9,k9,m9,h,rfl⟩:=h
 obtain ⟨rfl,l9⟩:=lst_ls m9
 unfold Ow at h
 obtain ⟨a5,na5,c5,d10,F10,G10,rfl,i10,j10,k10,m10,h,rfl⟩:=h
 obtain ⟨rfl,l10⟩:=lst_ls m10
 unfold Ow at h
 obtain ⟨a6,na6,c6,d11,F11,G11,rfl,i11,j11,k11,m11,h,rfl⟩:=h
 obtain ⟨rfl,l11⟩:=lst_ls m11
 unfold Ow at h
 obtain ⟨a7,na7,c7,d12,F12,G12,rfl,i12,j12,k12,m12,h,rfl⟩:=h
 obtain ⟨rfl,l12⟩:=lst_ls m12
 unfold Ow at h
 obtain ⟨d13,rfl,v13,h⟩:=h
 unfold Ow at h
 obtain ⟨a8,na8,c8,d14,F14,G14,rfl,i14,j14,k14,m14,h,rfl⟩:=h
 obtain ⟨rfl,l14⟩:=lst_ls m14
 unfold Ow at h
 obtain ⟨d15,rfl,v15,h⟩:=h
 unfold Ow at h
 obtain ⟨d16,rfl,v16,h⟩:=h
 unfold Ow at h
 obtain ⟨rfl,rfl⟩:=h
 exact ⟨a1,c1,a2,c2,a3,c3,a4,c4,a5,c5,a6,c6,a7,c7,a8,c8,rfl,⟨l6.mono (fun b hb => List.mem_append_left _ hb),i6,j6⟩,⟨l7.mono (fun b hb => List.mem_append_right _ (List.mem_append_left _ hb)),i7,j7⟩,⟨l8.mono (fun b hb => List.mem_append_right _ (List.mem_append_right _ (List.mem_append_left _ hb))),i8,j8⟩,⟨l9.mono (fun b hb => List.mem_append_right _ (List.mem_append_right _ (List.mem_append_right _ (List.mem_append_left _ hb)))),i9,j9⟩,⟨l10.mono (fun b hb => List.mem_append_right _ (List.mem_append_right _ (List.mem_append_right _ (List.mem_append_right _ (List.mem_append_left _ hb))))),i10,j10⟩,⟨l11.mono (fun b hb => List.mem_append_right _ (List.mem_append_right _ (List.mem_append_right _ (List.mem_append_right _ (List.mem_append_right _ (List.mem_append_left _ hb)))))),i11,j11⟩,⟨l12.mono (fun b hb => List.mem_append_right _ (List.mem_append_right _ (List.mem_append_right _ (List.mem_append_right _ (List.mem_append_right _ (List.mem_append_right _ (List.mem_append_left _ hb))))))),i12,j12⟩,⟨l14.mono (fun b hb => List.mem_append_right _ (List.mem_append_right _ (List.mem_append_right _ (List.mem_append_right _ (List.mem_append_right _ (List.mem_append_right _ (List.mem_append_right _ (List.mem_append_left _ hb)))))))),i14,j14⟩⟩
set_option maxHeartbeats 8000000 in
set_option maxRecDepth 4000 in
theorem named_f (l l':List Dt) (h:EqLs (EqN false) l l'):SmLs 40 false 3 l l':=by
 intro w a a' c c' F G hl hl' hF hG hc hc' hm hm'
 obtain ⟨hlen,hel⟩:=h
 have HEL:=Hi hel
 have HL:=Hi hl
 have HL':=Hi hl'
 have HF:=Hi hF
 have HG:=Hi hG
 obtain ⟨n,hn⟩:∃ n,n = l.length:=⟨_,rfl⟩
 have hn':n = l'.length:=hn.trans hlen
 rw [← hn] at hc ⊢
 rw [← hn'] at hc' ⊢
 have Hn:=Hi (And.intro hn hn')
 clear hel hl hl' hF hG hn hn' hlen
 unfold maxLen at hm hm'
 go_enter Tryz.func40,Tryz.ntmps40
 go_wp2_with fail
 go_loopw [7] (fun i wr => ∃ j:Nat,j ≤ n ∧ i = .int .i64 j ∧ Below w.heap.size w wr) (fun i _ => n - (intOf i).toNat)
 case atStart => exact ⟨0,Nat.zero_le _,rfl,Below.refl _ _⟩
 case round =>
  obtain ⟨j,hj,rfl,hI⟩:=hrel
  by_cases hlt:j < n
  ·have ji:(j:Int) < (n:Int):=by omega
   have hlt1:j < l.length:=by have:=uh Hn;omega
   have hlt2:j < l'.length:=by have:=uh Hn;omega
   obtain ⟨p,off,rfl,hpF,hget⟩:=(uh HL).resolve_left (fun h0 => by rw [h0] at hlt1;exact absurd hlt1 (Nat.not_lt_zero _))
   obtain ⟨p',off',rfl,hpG,hget'⟩:=(uh HL').resolve_left (fun h0 => by rw [h0] at hlt2;exact absurd hlt2 (Nat.not_lt_zero _))
   obtain ⟨ds,G1,hrow,hdl,hod,hGF⟩:=hget j _ (List.getElem?_eq_getElem hlt1)
   obtain ⟨ds',G2,hrow',hdl',hod',hGG⟩:=hget' j _ (List.getElem?_eq_getElem hlt2)
   obtain ⟨⟨nm,x1,y1⟩,⟨nm',x2,y2⟩,hx,hy,hnm,hxy⟩:=(uh HEL) j _ _ (List.getElem?_eq_getElem hlt1) (List.getElem?_eq_getElem hlt2)
   have hnm:nm = nm':=hnm
   subst hnm
   rw [hx] at hod
   rw [hy] at hod'
   have q1:ds = [.string nm,.int .i64 x1,.int .i64 y1]:=nam_cells hod
   subst q1
   have q2:ds' = [.string nm,.int .i64 x2,.int .i64 y2]:=nam_cells hod'
   subst q2
   clear hxy
   have hplt:=(uh HF) p hpF
   have hplt':=(uh HG) p' hpG
   have hr:=fun (q:Nat) (u:Value) hu => (hI.cell (p:=⟨p,off + j * 3 + q,none⟩) hplt).trans (hrow q u hu)
   have hr':=fun (q:Nat) (u:Value) hu => (hI.cell (p:=⟨p',off' + j * 3 + q,none⟩) hplt').trans (hrow' q u hu)
   have r0:wr.cell? ⟨p,off + j * 3,none⟩ = some (.string nm):=hr 0 _ rfl
   have r1:wr.cell? ⟨p,off + j * 3 + 1,none⟩ = some (.int .i64 x1):=hr 1 _ rfl
   have r2:wr.cell? ⟨p,off + j * 3 + 2,none⟩ = some (.int .i64 y1):=hr 2 _ rfl
   have s0:wr.cell? ⟨p',off' + j * 3,none⟩ = some (.string nm):=hr' 0 _ rfl
   have s1:wr.cell? ⟨p',off' + j * 3 + 1,none⟩ = some (.int .i64 x2):=hr' 1 _ rfl
   have s2:wr.cell? ⟨p',off' + j * 3 + 2,none⟩ = some (.int .i64 y2):=hr' 2 _ rfl
   have hq1:p < wr.heap.size:=Nat.lt_of_lt_of_le hplt hI.size
   have hq2:p' < wr.heap.size:=Nat.lt_of_lt_of_le hplt' hI.size
   clear hr hr' hrow hrow' hod hod' hx hy hdl hdl' hget hget' hGF hGG
   go_wp2_with fail
   go_quiet (fail)
   obtain ⟨V0,hV0⟩:∃ V0,V0 = wr.drewN nq:=⟨_,rfl⟩
   have hS0:Below wr.heap.size wr V0:=by rw [hV0];exact Go.below_drewN (Below.refl _ _) nq
   rw [← hV0]
   clear hV0
   go_wp2_with fail
   go_roundw
   case rel => exact ⟨j + 1,by omega,by go_num,hI.trans (hS0.mono hI.size)⟩
   case measure => first | (simp [intOf];omega) | simp [intOf]
  ·have ji:¬ (j:Int) < (n:Int):=by omega
   have hI9:=Hi hI
   clear hlt
   go_wp2_with fail
   go_ret
   exact ⟨rfl,uh hI9⟩
set_option maxHeartbeats 8000000 in
set_option maxRecDepth 4000 in
theorem roots_f (l l':List Dt) (h:EqLs (EqRt false) l l'):SmLs 44 false 4 l l':=by
 intro w a a' c c' F G hl hl' hF hG hc hc' hm hm'
 obtain ⟨hlen,hel⟩:=h
 have HEL:=Hi hel
 have HL:=Hi hl
 have HL':=Hi hl'
 have HF:=Hi hF
 have HG:=Hi hG
 obtain ⟨n,hn⟩:∃ n,n = l.length:=⟨_,rfl⟩
 have hn':n = l'.length:=hn.trans hlen
 rw [← hn] at hc ⊢
 rw [← hn'] at hc' ⊢
 have Hn:=Hi (And.intro hn hn')
 clear hel hl hl' hF hG hn hn' hlen
 unfold maxLen at hm hm'
 go_enter Tryz.func44,Tryz.ntmps44
 go_wp2_with fail
 go_loopw [7] (fun i wr => ∃ j:Nat,j ≤ n ∧ i = .int .i64 j ∧ Below w.heap.size w wr) (fun i _ => n - (intOf i).toNat)
 case atStart => exact ⟨0,Nat.zero_le _,rfl,Below.refl _ _⟩
 case round =>
  obtain ⟨j,hj,rfl,hI⟩:=hrel
  by_cases hlt:j < n
  ·have ji:(j:Int) < (n:Int):=by omega
   have hlt1:j < l.length:=by have:=uh Hn;omega
   have hlt2:j < l'.length:=by have:=uh Hn;omega
   obtain ⟨p,off,rfl,hpF,hget⟩:=(uh HL).resolve_left (fun h0 => by rw [h0] at hlt1;exact absurd hlt1 (Nat.not_lt_zero _))
   obtain ⟨p',off',rfl,hpG,hget'⟩:=(uh HL').resolve_left (fun h0 => by rw [h0] at hlt2;exact absurd hlt2 (Nat.not_lt_zero _))
   obtain ⟨ds,G1,hrow,hdl,hod,hGF⟩:=hget j _ (List.getElem?_eq_getElem hlt1)
   obtain ⟨ds',G2,hrow',hdl',hod',hGG⟩:=hget' j _ (List.getElem?_eq_getElem hlt2)
   obtain ⟨k,ty,x1,y1,x2,y2,hx,hy,hxy⟩:=(uh HEL) j _ _ (List.getElem?_eq_getElem hlt1) (List.getElem?_eq_getElem hlt2)
   rw [hx] at hod
   rw [hy] at hod'
   have q1:ds = [.int .i64 k,.string ty,.int .i64 x1,.int .i64 y1]:=roo_cells hod
   subst q1
   have q2:ds' = [.int .i64 k,.string ty,.int .i64 x2,.int .i64 y2]:=roo_cells hod'
   subst q2
   clear hxy
   have hplt:=(uh HF) p hpF
   have hplt':=(uh HG) p' hpG
   have hr:=fun (q:Nat) (u:Value) hu => (hI.cell (p:=⟨p,off + j * 4 + q,none⟩) hplt).trans (hrow q u hu)
   have hr':=fun (q:Nat) (u:Value) hu => (hI.cell (p:=⟨p',off' + j * 4 + q,none⟩) hplt').trans (hrow' q u hu)
   have r0:wr.cell? ⟨p,off + j * 4,none⟩ = some (.int .i64 k):=hr 0 _ rfl
   have r1:wr.cell? ⟨p,off + j * 4 + 1,none⟩ = some (.string ty):=hr 1 _ rfl
   have r2:wr.cell? ⟨p,off + j * 4 + 2,none⟩ = some (.int .i64 x1):=hr 2 _ rfl
   have r3:wr.cell? ⟨p,off + j * 4 + 3,none⟩ = some (.int .i64 y1):=hr 3 _ rfl
   have s0:wr.cell? ⟨p',off' + j * 4,none⟩ = some (.int .i64 k):=hr' 0 _ rfl
   have s1:wr.cell? ⟨p',off' + j * 4 + 1,none⟩ = some (.string ty):=hr' 1 _ rfl
   have s2:wr.cell? ⟨p',off' + j * 4 + 2,none⟩ = some (.int .i64 x2):=hr' 2 _ rfl
   have s3:wr.cell? ⟨p',off' + j * 4 + 3,none⟩ = some (.int .i64 y2):=hr' 3 _ rfl
   have hq1:p < wr.heap.size:=Nat.lt_of_lt_of_le hplt hI.size
   have hq2:p' < wr.heap.size:=Nat.lt_of_lt_of_le hplt' hI.size
   clear hr hr' hrow hrow' hod hod' hx hy hdl hdl' hget hget' hGF hGG
   go_wp2_with fail
   go_quiet (fail)
   obtain ⟨V0,hV0⟩:∃ V0,V0 = wr.drewN nq:=⟨_,rfl⟩
   have hS0:Below wr.heap.size wr V0:=by rw [hV0];exact Go.below_drewN (Below.refl _ _) nq
   rw [← hV0]
   clear hV0
   go_wp2_with fail
   go_roundw
   case rel => exact ⟨j + 1,by omega,by go_num,hI.trans (hS0.mono hI.size)⟩
   case measure => first | (simp [intOf];omega) | simp [intOf]
  ·have ji:¬ (j:Int) < (n:Int):=by omega
   have hI9:=Hi hI
   clear hlt
   go_wp2_with fail
   go_ret
   exact ⟨rfl,uh hI9⟩
end Go.Proofs.YtifbkdicglcogaaGreat.cu
