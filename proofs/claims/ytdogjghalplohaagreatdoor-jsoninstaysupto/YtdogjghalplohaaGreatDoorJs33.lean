import Derived.Test.YtdogjghalplohaaGreatDoorJs21
import Derived.Test.YtdogjghalplohaaGreatDoorJs31
import Derived.Test.YtdogjghalplohaaGreatDoorJs32
import Derived.Test.YtdogjghalplohaaGreatDoorJs12
namespace Go.Proofs.YtdogjghalplohaaGreatDoor.fto
open Go.ChangeShapes Go.WideShapes Go.ChangeAt Go.RowKit
open mem Go.Sort
open ints (hide unhide)
set_option linter.unusedVariables false
set_option linter.unusedSimpArgs false
def FlV (A F:List Int) (E:Option (Int × Option Bool × List Int)) (R:Nat):Prop:=
 ∃ lo,Lo (dv (trm (A ++ F)) * 10 ^ (exX E - F.length).toNat * k74) (10 ^ (-(exX E - F.length)).toNat) lo ∧ dcm.cpR (roundR (dv (trm (A ++ F)) * 10 ^ (exX E - F.length).toNat * k74) (10 ^ (-(exX E - F.length)).toNat) lo) = R
inductive RdV (l:List Int):Int → Int → Nat → Int → Prop
 | none (h:numP l = false):RdV l 0 0 0 20
 | int (ng:Bool) (A:List Int) (h:NumT l ng A [] none) (hr:inI ng (dv A) = true):RdV l 2 (svI ng (dv A)) 0 0
 | flt (ng:Bool) (A F:List Int) (E:Option (Int × Option Bool × List Int)) (R:Nat) (h:NumT l ng A F E) (hn:¬ isW ng A F E) (hR:FlV A F E R) (h1:R < infR):RdV l 3 0 (ng.toNat * 9223372036854775808 + R) 0
 | big (ng:Bool) (A F:List Int) (E:Option (Int × Option Bool × List Int)) (h:NumT l ng A F E) (hn:¬ isW ng A F E) (hR:FlV A F E infR):RdV l 0 0 0 7
theorem str_bytZ (s:ByteArray):strOfNums (bytZ s) = s:=by
 have:(bytZ s).map (fun n => UInt8.ofNat n.toNat) = s.data.toList:=by
  unfold bytZ
  rw [List.map_map]
  conv => rhs;rw [← List.map_id s.data.toList]
  refine List.map_congr_left fun b _ => ?_
  show UInt8.ofNat ((b.toNat:Int).toNat) = b
  rw [Int.toNat_natCast,UInt8.ofNat_toNat]
 show (⟨((bytZ s).map fun n => UInt8.ofNat n.toNat).toArray⟩:ByteArray) = s
 rw [this]
theorem cpR_le (R:Nat):dcm.cpR R ≤ infR:=by
 unfold dcm.cpR
 split <;> omega
theorem bad_fin (ng:Bool) {R:Nat} (h:R < infR):badF (ng.toNat * 9223372036854775808 + R) = false:=by
 have h':R < 9218868437227405312:=h
 unfold badF
 rw [decide_eq_false_iff_not]
 cases ng <;> simp <;> omega
theorem bad_inf (ng:Bool):badF (ng.toNat * 9223372036854775808 + infR) = true ∧ nanB (ng.toNat * 9223372036854775808 + infR) = false:=by
 cases ng <;> decide
theorem read_bad (s:ByteArray) (hs:s.size ≤ 1050000) (hn:numP (bytZ s) = false) (W:World) :
  Calls Tryz.prog 16 #[.string s] W fun x w' => x = .returned (.tuple #[.agg #[.int .i64 0,.int .i64 0,.float .f64 0],.int .i64 20]) ∧ Below W.heap.size W w':=by
 have hlen:=bytZ_len s
 have hf:formZ (aut (bytZ s)) = 0:=by
  unfold numP at hn
  simpa using of_decide_eq_false hn
 have hl:=pfx_le (bytZ s) 0 (Nat.zero_le _)
 have hk:=pfx_ok (bytZ s) 0 (Nat.zero_le _)
 have hr:=form_rng (aut (((bytZ s).drop 0).take ((pfx (bytZ s) 0).1 - 0)))
 rw [hk.fm] at hr
 exact read_none s (pfx (bytZ s) 0).1 (pfx (bytZ s) 0).2.1 (pfx (bytZ s) 0).2.2 W (by omega) rfl (by omega) hr (by have:=pfx_none (bytZ s) hf;rw [hlen] at this;exact this)
theorem NumT.pfx {s:ByteArray} {ng:Bool} {A F:List Int} {E:Option (Int × Option Bool × List Int)} (h:NumT (bytZ s) ng A F E):pfx (bytZ s) 0 = (s.size,s.size,if F = [] ∧ E = none then 1 else 2):=by
 have hf:=h.num
 have:=pfx_num (bytZ s) (by rw [hf];split <;> decide)
 rw [this,hf,bytZ_len]
theorem NumT.str {s:ByteArray} {ng:Bool} {A F:List Int} {E:Option (Int × Option Bool × List Int)} (h:NumT (bytZ s) ng A F E):s = strOfNums (sgL ng ++ (A ++ (frL F ++ exA E))):=by rw [← h.eq,str_bytZ]
theorem NumT.len {s:ByteArray} {ng:Bool} {A F:List Int} {E:Option (Int × Option Bool × List Int)} (h:NumT (bytZ s) ng A F E):A.length + F.length + (exA E).length ≤ s.size:=by
 have hl:=congrArg List.length h.eq
 rw [bytZ_len] at hl
 simp only [List.length_append] at hl
 have lfr:F.length ≤ (frL F).length:=by unfold frL;split <;> simp_all
 omega
theorem NumT.rng {s:ByteArray} {ng:Bool} {A F:List Int} {E:Option (Int × Option Bool × List Int)} (h:NumT (bytZ s) ng A F E) (hn:¬ isW ng A F E):F = [] ∧ E = none → Lib.parseIntB 64 s.data.toList = .range:=by
 rintro ⟨rfl,rfl⟩
 have hb:=pib_all ng A h.wh.dg h.wh.ne
 rw [if_neg (fun q => hn ⟨rfl,rfl,q⟩)] at hb
 have es:=h.str
 have e2:sgL ng ++ (A ++ (frL [] ++ exA none)) = sgL ng ++ A:=by simp [frL,exA]
 rw [e2] at es
 rw [es]
 exact hb
theorem NumT.exp {s:ByteArray} {ng:Bool} {A F:List Int} {E:Option (Int × Option Bool × List Int)} (h:NumT (bytZ s) ng A F E) (hs:s.size ≤ 1050000):exP E:=by
 have hl:=h.len
 rcases E with _ | ⟨ec,o,X⟩
 ·trivial
 ·obtain ⟨q1,q2,q3⟩:=h.ex _ rfl
  refine ⟨q1,q2,q3,?_⟩
  simp only [exA,List.length_cons,List.length_append] at hl
  omega
theorem read_w (s:ByteArray) (hs:s.size ≤ 1050000) (ng:Bool) (A:List Int) (h:NumT (bytZ s) ng A [] none) (hin:inI ng (dv A) = true) (W:World) :
  Calls Tryz.prog 16 #[.string s] W fun x w' => x = .returned (.tuple #[.agg #[.int .i64 2,.int .i64 (svI ng (dv A)),.float .f64 0],.int .i64 0]) ∧ Below W.heap.size W w':=by
 refine readw_in s _ W (by omega) ?_ ?_
 ·have:=h.pfx
  rw [if_pos ⟨rfl,rfl⟩] at this
  exact this
 ·have hb:=pib_all ng A h.wh.dg h.wh.ne
  rw [if_pos hin] at hb
  have es:=h.str
  have e2:sgL ng ++ (A ++ (frL [] ++ exA none)) = sgL ng ++ A:=by simp [frL,exA]
  rw [e2] at es
  rw [es]
  exact hb
theorem near_any (s:ByteArray) (hs:s.size ≤ 1050000) (ng:Bool) (A F:List Int) (E:Option (Int × Option Bool × List Int)) (h:NumT (bytZ s) ng A F E) (R:Nat) (hR:FlV A F E R) (W:World) (hW:dcm.Fz W) :
  Calls Tryz.prog 34 #[.string s] W fun x w' => x = .returned (.float .f64 (ng.toNat * 9223372036854775808 + R)) ∧ Below W.heap.size W w':=by
 obtain ⟨lo,hlo,C⟩:=nearest_full ng A F E W hW h.wh.dg h.wh.ne h.fr (h.exp hs) (by have:=h.len;omega)
 obtain ⟨lo2,hlo2,rfl⟩:=hR
 obtain rfl:=hlo.unique hlo2
 rw [h.str]
 exact C
theorem FlV.le {A F:List Int} {E:Option (Int × Option Bool × List Int)} {R:Nat} (h:FlV A F E R):R ≤ infR:=by obtain ⟨lo,hlo,rfl⟩:=h;exact cpR_le _
theorem FlV.some (A F:List Int) (E:Option (Int × Option Bool × List Int)):∃ R,FlV A F E R:=by
 obtain ⟨lo,hlo⟩:=dcm.lo_some (dv (trm (A ++ F)) * 10 ^ (exX E - F.length).toNat * k74) (B:=10 ^ (-(exX E - F.length)).toNat) (Nat.pow_pos (by decide))
 exact ⟨_,lo,hlo,rfl⟩
theorem infR_num:infR = 9218868437227405312:=rfl
theorem read_f (s:ByteArray) (hs:s.size ≤ 1050000) (ng:Bool) (A F:List Int) (E:Option (Int × Option Bool × List Int)) (h:NumT (bytZ s) ng A F E) (hn:¬ isW ng A F E) (R:Nat) (hR:FlV A F E R) (hi:R < infR) (W:World) (hW:dcm.Fz W) :
  Calls Tryz.prog 16 #[.string s] W fun x w' => x = .returned (.tuple #[.agg #[.int .i64 3,.int .i64 0,.float .f64 (ng.toNat * 9223372036854775808 + R)],.int .i64 0]) ∧ Below W.heap.size W w':=by
 have hpx:=h.pfx
 have hR64:ng.toNat * 9223372036854775808 + R < 18446744073709551616:=by
  have:=infR_num
  have:=Bool.toNat_le ng
  omega
 by_cases h0:F = [] ∧ E = none
 ·rw [if_pos h0] at hpx
  exact read_wfin s _ W hW (by omega) hR64 (bad_fin ng hi) hpx (h.rng hn h0) (fun W' hW' => near_any s hs ng A F E h R hR W' hW')
 ·rw [if_neg h0] at hpx
  exact read_fin s _ W hW (by omega) hR64 (bad_fin ng hi) hpx (fun W' hW' => near_any s hs ng A F E h R hR W' hW')
theorem read_b (s:ByteArray) (hs:s.size ≤ 1050000) (ng:Bool) (A F:List Int) (E:Option (Int × Option Bool × List Int)) (h:NumT (bytZ s) ng A F E) (hn:¬ isW ng A F E) (hR:FlV A F E infR) (W:World) (hW:dcm.Fz W) :
  Calls Tryz.prog 16 #[.string s] W fun x w' => x = .returned (.tuple #[.agg #[.int .i64 0,.int .i64 0,.float .f64 0],.int .i64 7]) ∧ Below W.heap.size W w':=by
 have hpx:=h.pfx
 have hR64:ng.toNat * 9223372036854775808 + infR < 18446744073709551616:=by
  have:=infR_num
  have:=Bool.toNat_le ng
  omega
 by_cases h0:F = [] ∧ E = none
 ·rw [if_pos h0] at hpx
  exact read_winf s _ W hW (by omega) hR64 (bad_inf ng).2 (bad_inf ng).1 hpx (h.rng hn h0) (fun W' hW' => near_any s hs ng A F E h infR hR W' hW')
 ·rw [if_neg h0] at hpx
  exact read_inf s _ W hW (by omega) hR64 (bad_inf ng).2 (bad_inf ng).1 hpx (fun W' hW' => near_any s hs ng A F E h infR hR W' hW')
theorem read_any (s:ByteArray) (hs:s.size ≤ 1050000):∃ (k i:Int) (f:Nat) (e:Int),RdV (bytZ s) k i f e ∧ ∀ W,dcm.Fz W →
  Calls Tryz.prog 16 #[.string s] W fun x w' => x = .returned (.tuple #[.agg #[.int .i64 k,.int .i64 i,.float .f64 f],.int .i64 e]) ∧ Below W.heap.size W w':=by
 cases hn:numP (bytZ s)
 ·exact ⟨_,_,_,_,RdV.none hn,fun W _ => read_bad s hs hn W⟩
 ·obtain ⟨ng,A,F,E,e1,hA,hF,hE,hfm⟩:=num_parts (bytZ s) (of_decide_eq_true hn)
  have hT:NumT (bytZ s) ng A F E:=⟨e1,hA,hF,hE⟩
  by_cases hw:isW ng A F E
  ·obtain ⟨rfl,rfl,hin⟩:=hw
   exact ⟨_,_,_,_,RdV.int ng A hT hin,fun W _ => read_w s hs ng A hT hin W⟩
  ·obtain ⟨R,hR⟩:=FlV.some A F E
   have hRl:=hR.le
   by_cases hi:R < infR
   ·exact ⟨_,_,_,_,RdV.flt ng A F E R hT hw hR hi,fun W hW => read_f s hs ng A F E hT hw R hR hi W hW⟩
   ·obtain rfl:R = infR:=by omega
    exact ⟨_,_,_,_,RdV.big ng A F E hT hw hR,fun W hW => read_b s hs ng A F E hT hw hR W hW⟩
end Go.Proofs.YtdogjghalplohaaGreatDoor.fto
namespace Go.Proofs.YtdogjghalplohaaGreatDoor.jin
open Go.ChangeShapes Go.WideShapes Go.ChangeAt Go.RowKit
open mem Go.Maps
open vl (Vl Vls Fls VlC VlsAt FlsAt Row8 Small SmallI SmallF)
open ints (hide unhide hexV)
set_option linter.unusedVariables false
set_option linter.unusedSimpArgs false
theorem nr_ex (s:ByteArray):∃ t:Int × Int × Nat × Int,(s.size ≤ 1050000 → fto.RdV (fto.bytZ s) t.1 t.2.1 t.2.2.1 t.2.2.2 ∧ ∀ W,dcm.Fz W →
  Calls Tryz.prog 16 #[.string s] W fun x w' => x = .returned (.tuple #[.agg #[.int .i64 t.1,.int .i64 t.2.1,.float .f64 t.2.2.1],.int .i64 t.2.2.2]) ∧ Below W.heap.size W w') ∧ (¬ s.size ≤ 1050000 → t = (0,0,0,20)):=by
 by_cases hs:s.size ≤ 1050000
 ·obtain ⟨k,i,f,e,h1,h2⟩:=fto.read_any s hs
  exact ⟨(k,i,f,e),fun _ => ⟨h1,h2⟩,fun h => absurd hs h⟩
 ·exact ⟨(0,0,0,20),fun h => absurd h hs,fun _ => rfl⟩
noncomputable def nrO (s:ByteArray):Int × Int × Nat × Int:=Classical.choose (nr_ex s)
theorem nrO_rd {s:ByteArray} (h:s.size ≤ 1050000):fto.RdV (fto.bytZ s) (nrO s).1 (nrO s).2.1 (nrO s).2.2.1 (nrO s).2.2.2:=((Classical.choose_spec (nr_ex s)).1 h).1
theorem nrO_call {s:ByteArray} (h:s.size ≤ 1050000) (W:World) (hW:dcm.Fz W):Calls Tryz.prog 16 #[.string s] W fun x w' => x = .returned (.tuple #[.agg #[.int .i64 (nrO s).1,.int .i64 (nrO s).2.1,.float .f64 (nrO s).2.2.1],.int .i64 (nrO s).2.2.2]) ∧ Below W.heap.size W w':=((Classical.choose_spec (nr_ex s)).1 h).2 W hW
theorem nrO_big {s:ByteArray} (h:¬ s.size ≤ 1050000):nrO s = (0,0,0,20):=(Classical.choose_spec (nr_ex s)).2 h
theorem wf_rng {x:Int} (h1:-9223372036854775808 ≤ x) (h2:x ≤ 9223372036854775807):(Lit.int .i64 x).wf = true:=by
 simp [Lit.wf,IntKind.min,IntKind.max,IntKind.signed,IntKind.bits]
 omega
theorem RdV.rng {l:List Int} {k i:Int} {f:Nat} {e:Int} (h:fto.RdV l k i f e):(k = 0 ∨ k = 2 ∨ k = 3) ∧ (-9223372036854775808 ≤ i ∧ i ≤ 9223372036854775807) ∧ f < 18446744073709551616 ∧ (e = 0 ∧ k ≠ 0 ∨ e = 20 ∧ k = 0 ∨ e = 7 ∧ k = 0):=by
 cases h with
 | none h => exact ⟨.inl rfl,⟨by decide,by decide⟩,by decide,.inr (.inl ⟨rfl,rfl⟩)⟩
 | int ng A h hr =>
  refine ⟨.inr (.inl rfl),?_,by decide,.inl ⟨rfl,by decide⟩⟩
  unfold fto.inI at hr
  unfold fto.svI
  cases ng
  ·simp at hr ⊢;omega
  ·simp at hr ⊢;omega
 | flt ng A F E R h hn hR h1 =>
  refine ⟨.inr (.inr rfl),⟨by decide,by decide⟩,?_,.inl ⟨rfl,by decide⟩⟩
  rw [fto.infR_num] at h1
  cases ng
  ·simp;omega
  ·simp;omega
 | big ng A F E h hn hR => exact ⟨.inl rfl,⟨by decide,by decide⟩,by decide,.inr (.inr ⟨rfl,rfl⟩)⟩
theorem nrO_rng (s:ByteArray):((nrO s).1 = 0 ∨ (nrO s).1 = 2 ∨ (nrO s).1 = 3) ∧ (-9223372036854775808 ≤ (nrO s).2.1 ∧ (nrO s).2.1 ≤ 9223372036854775807) ∧ (nrO s).2.2.1 < 18446744073709551616 ∧ ((nrO s).2.2.2 = 0 ∧ (nrO s).1 ≠ 0 ∨ (nrO s).2.2.2 = 20 ∧ (nrO s).1 = 0 ∨ (nrO s).2.2.2 = 7 ∧ (nrO s).1 = 0):=by
 by_cases h:s.size ≤ 1050000
 ·exact RdV.rng (nrO_rd h)
 ·rw [nrO_big h]
  exact ⟨.inl rfl,⟨by decide,by decide⟩,by decide,.inr (.inl ⟨rfl,rfl⟩)⟩
theorem nrO_wf (s:ByteArray):(Lit.int .i64 (nrO s).1).wf = true ∧ (Lit.int .i64 (nrO s).2.1).wf = true:=by
 obtain ⟨h1,h2,-,-⟩:=nrO_rng s
 exact ⟨wf_rng (by omega) (by omega),wf_rng h2.1 h2.2⟩
theorem nrO_kind (s:ByteArray):(nrO s).1 ≠ 5 ∧ (nrO s).1 ≠ 6:=by
 obtain ⟨h1,-,-,-⟩:=nrO_rng s
 omega
noncomputable def nmO (Z:List Int) (p:Nat):Except (Nat × Int) (Vl × Nat):=if p ≤ Z.length then numR Z nrO p else .error (p,50)
def roomD (depth:Int):Nat:=(min (max depth 0) 200).toNat
theorem roomD_ok (depth:Int):(depth < 0 ∧ roomD depth = 0) ∨ (depth = roomD depth ∧ roomD depth ≤ 200) ∨ (200 < depth ∧ roomD depth = 200):=by unfold roomD;omega
noncomputable def RdO (Z:List Int) (depth:Int):Except (Nat × Int) (Vl × Nat):=rdF Z (nmO Z) (roomD depth)
theorem nmO_pos {Z:List Int}:∀ p v p',nmO Z p = .ok (v,p') → p < p' ∧ p' ≤ Z.length:=fun p v p' h => by
 unfold nmO at h
 split at h
 ·rename_i hp;exact numR_pos hp h
 ·cases h
theorem nmO_flat {Z:List Int}:∀ p v p',nmO Z p = .ok (v,p') → dp v = 0:=numR_flat nrO_kind
theorem nmO_small {Z:List Int}:∀ p v p',nmO Z p = .ok (v,p') → Small v:=fun p v p' h => by
 unfold nmO at h
 split at h
 ·unfold numR numF at h
  split at h
  ·cases h
  split at h
  ·injection h with h
   injection h with e1 e2
   rw [← e1]
   exact Small.flat (nrO_rng _).2.2.1
  ·cases h
 ·cases h
theorem RdO_small {Z:List Int} (hl:Z.length ≤ 1099511627776) (depth:Int):Small (rdV (RdO Z depth)):=
 rdF_all nmO_pos Small (Small.flat (by decide)) (fun b => Small.flat (by decide)) (fun s _ => Small.flat (by decide)) nmO_small (fun L h1 h2 => Small.lst (by omega) h2) (fun F h1 h2 => Small.obj (by omega) (fun m hm => (h2 m hm).2))
section
variable {a:Option Addr} {n c:Nat} {Z:List Int} {w:World}
theorem read_all (hZ:∀ z ∈ Z,0 ≤ z ∧ z ≤ 255) (hn:n ≤ 1099511627776) (hT:∀ p,p < n → (pfx Z p).2.2 ≠ 0 → (pfx Z p).1 - p ≤ 1050000) (hW:dcm.Fz w) (depth:Int) (hrow:Row .u8 w a n c Z) :
  Calls Tryz.prog 10 #[.slice a n c,.int .i64 depth] w fun e w' => (∃ cs,e = .returned (.tuple #[.agg cs.toArray,.int .i64 (rdA (RdO Z depth)),.int .i64 (rdE (RdO Z depth))]) ∧ FvC w.heap.size none w' (rdV (RdO Z depth)) cs) ∧ Below w.heap.size w w':=by
 refine read_num hZ hn nrO nrO_wf (fun p u hp hf hb => ?_) depth (roomD depth) (roomD_ok depth) hrow
 refine nrO_call ?_ u (hW.below hb)
 have h1:=hT p hp hf
 have h2:(strOfNums (pcZ Z p (pfx Z p).1)).size ≤ (pcZ Z p (pfx Z p).1).length:=by simp [strOfNums,ByteArray.size]
 have h3:(pcZ Z p (pfx Z p).1).length ≤ (pfx Z p).1 - p:=by unfold pcZ;simp;omega
 omega
theorem read_few (hZ:∀ z ∈ Z,0 ≤ z ∧ z ≤ 255) (hn:n ≤ 1050000) (hW:dcm.Fz w) (depth:Int) (hrow:Row .u8 w a n c Z) :
  Calls Tryz.prog 10 #[.slice a n c,.int .i64 depth] w fun e w' => (∃ cs,e = .returned (.tuple #[.agg cs.toArray,.int .i64 (rdA (RdO Z depth)),.int .i64 (rdE (RdO Z depth))]) ∧ FvC w.heap.size none w' (rdV (RdO Z depth)) cs) ∧ Below w.heap.size w w':=by
 refine read_all hZ (by omega) (fun p hp hf => ?_) hW depth hrow
 have hl:=hrow.len
 obtain ⟨-,h2,h3,-,-,-,-,-⟩:=pfx_ok Z p (by omega)
 omega
end
end Go.Proofs.YtdogjghalplohaaGreatDoor.jin
namespace Go.Proofs.YtdogjghalplohaaGreatDoor.jin
open Go.ChangeShapes Go.WideShapes Go.ChangeAt Go.RowKit
open mem Go.Maps
open vl (Vl Vls Fls VlC VlsAt FlsAt Row8 Small SmallI SmallF)
open ints (hide unhide hexV)
set_option linter.unusedVariables false
set_option linter.unusedSimpArgs false
def z15:List Int:=[32,91,110,117,108,108,44,32,123,34,97,34,58,49,46,53,125,93]
def z1c:List Int:=[91,49,44,93]
def obj15 (v:Vl):Vl:=listV [nulV,objV [(⟨#[97]⟩,v)]]
theorem rd15 (nm:Nat → Except (Nat × Int) (Vl × Nat)) (v:Vl) (h:nm 13 = .ok (v,16)):rdF z15 nm 2 = .ok (obj15 v,18):=by
 have e1:vrF z15 nm 17 0 13 = nm 13:=by kernel_rfl
 have e2:stepO z15 (vrF z15 nm 17 0) [] 9 = exB (fun v q' => .ok ([(⟨#[97]⟩,v)],q')) (vrF z15 nm 17 0 13):=by kernel_rfl
 have e3:elF z15 (stepO z15 (vrF z15 nm 17 0)) 125 19 [] 9 = .ok ([(⟨#[97]⟩,v)],16):=by
  rw [elF,e2,e1,h]
  kernel_rfl
 have e4:vrF z15 nm 18 1 8 = .ok (objV [(⟨#[97]⟩,v)],17):=by
  have:vrF z15 nm 18 1 8 = exB (fun F q' => .ok (objV F,q')) (exB (fun st' p => .ok (st',p + 1)) (elF z15 (stepO z15 (vrF z15 nm 17 0)) 125 19 [] 9)):=by kernel_rfl
  rw [this,e3]
  rfl
 have e5:stepL (vrF z15 nm 18 1) [nulV] 8 = .ok ([nulV,objV [(⟨#[97]⟩,v)]],17):=by
  unfold stepL
  rw [e4]
  rfl
 have e6:elF z15 (stepL (vrF z15 nm 18 1)) 93 18 [nulV] 8 = .ok ([nulV,objV [(⟨#[97]⟩,v)]],17):=by
  rw [elF,e5]
  kernel_rfl
 have e7:rdF z15 nm 2 = exB (fun v q' => if blE z15 q' < z15.length then .error (blE z15 q',50) else .ok (v,blE z15 q')) (exB (fun L q' => .ok (listV L,q')) (exB (fun st' p => .ok (st',p + 1)) (elF z15 (stepL (vrF z15 nm 18 1)) 93 18 [nulV] 8))):=by kernel_rfl
 rw [e7,e6]
 rfl
theorem rd1c (nm:Nat → Except (Nat × Int) (Vl × Nat)) (v:Vl) (h:nm 1 = .ok (v,2)) (h3:nm 3 = .error (3,50)):rdF z1c nm 2 = .error (3,50):=by
 have e1:vrF z1c nm 4 1 1 = nm 1:=by kernel_rfl
 have e2:stepL (vrF z1c nm 4 1) [] 1 = .ok ([v],2):=by
  unfold stepL
  rw [e1,h]
  rfl
 have e5:stepL (vrF z1c nm 4 1) [v] 3 = exB (fun u q' => .ok ([v] ++ [u],q')) (nm 3):=by kernel_rfl
 have e6:elF z1c (stepL (vrF z1c nm 4 1)) 93 4 [v] 3 = .error (3,50):=by
  rw [elF,e5,h3]
  rfl
 have e3:elF z1c (stepL (vrF z1c nm 4 1)) 93 5 [] 1 = elF z1c (stepL (vrF z1c nm 4 1)) 93 4 [v] 3:=by
  rw [elF,e2]
  kernel_rfl
 have e7:rdF z1c nm 2 = exB (fun v q' => if blE z1c q' < z1c.length then .error (blE z1c q',50) else .ok (v,blE z1c q')) (exB (fun L q' => .ok (listV L,q')) (exB (fun st' p => .ok (st',p + 1)) (elF z1c (stepL (vrF z1c nm 4 1)) 93 5 [] 1))):=by kernel_rfl
 rw [e7,e3,e6]
 rfl
open fto (NumT RdV FlV exA exX isW inI bytZ) in
theorem numT_15 {ng:Bool} {A F:List Int} {E:Option (Int × Option Bool × List Int)} (h:NumT [49,46,53] ng A F E):ng = false ∧ A = [49] ∧ F = [53] ∧ E = none:=by
 obtain ⟨e,⟨d,ne,-⟩,hF,hE⟩:=h
 cases ng
 case true => simp [sgL] at e
 case false =>
  simp only [sgL,Bool.false_eq_true,if_false,List.nil_append] at e
  cases A with
  | nil => exact absurd rfl ne
  | cons x A =>
   simp only [List.cons_append,List.cons.injEq] at e
   obtain ⟨rfl,e⟩:=e
   cases A with
   | cons y A =>
    simp only [List.cons_append,List.cons.injEq] at e
    have:=d y (by simp)
    omega
   | nil =>
    simp only [List.nil_append] at e
    by_cases hn:F = []
    ·subst hn
     cases E with
     | none => simp [frL,exA] at e
     | some q =>
      obtain ⟨c,o,X⟩:=q
      have:=(hE _ rfl).1
      simp [frL,exA] at e
      simp only at this
      omega
    ·simp only [frL,if_neg hn,List.cons_append,List.cons.injEq,true_and] at e
     cases F with
     | nil => exact absurd rfl hn
     | cons x F =>
      simp only [List.cons_append,List.cons.injEq] at e
      obtain ⟨rfl,e⟩:=e
      have e':=e.symm
      rw [List.append_eq_nil_iff] at e'
      obtain ⟨rfl,e'⟩:=e'
      cases E with
      | none => exact ⟨rfl,rfl,rfl,rfl⟩
      | some q => simp [exA] at e'
open fto (NumT RdV FlV exA exX isW inI bytZ) in
theorem numT_1 {ng:Bool} {A F:List Int} {E:Option (Int × Option Bool × List Int)} (h:NumT [49] ng A F E):ng = false ∧ A = [49] ∧ F = [] ∧ E = none:=by
 obtain ⟨e,⟨d,ne,-⟩,hF,hE⟩:=h
 cases ng
 case true => simp [sgL] at e
 case false =>
  simp only [sgL,Bool.false_eq_true,if_false,List.nil_append] at e
  cases A with
  | nil => exact absurd rfl ne
  | cons x A =>
   simp only [List.cons_append,List.cons.injEq] at e
   obtain ⟨rfl,e⟩:=e
   have e':=e.symm
   rw [List.append_eq_nil_iff] at e'
   obtain ⟨rfl,e'⟩:=e'
   rw [List.append_eq_nil_iff] at e'
   obtain ⟨e1,e2⟩:=e'
   have hn:F = []:=by
    by_cases hn:F = []
    ·exact hn
    ·simp [frL,hn] at e1
   subst hn
   cases E with
   | none => exact ⟨rfl,rfl,rfl,rfl⟩
   | some q => simp [exA] at e2
open fto (FlV) in
theorem flV_uni {A F:List Int} {E:Option (Int × Option Bool × List Int)} {R R':Nat} (h:FlV A F E R) (h':FlV A F E R'):R = R':=by
 obtain ⟨lo,hlo,rfl⟩:=h
 obtain ⟨lo2,hlo2,rfl⟩:=h'
 obtain rfl:=hlo.unique hlo2
 rfl
theorem flV_15:fto.FlV [49] [53] none 4609434218613702656:=by
 refine ⟨4609434218613702656,⟨?_,?_⟩,?_⟩
 ·exact Nat.le_of_ble_eq_true (by kernel_rfl)
 ·exact Nat.le_of_ble_eq_true (by kernel_rfl)
 ·kernel_rfl
theorem rdV_15 {k i:Int} {f:Nat} {e:Int} (h:fto.RdV [49,46,53] k i f e):k = 3 ∧ i = 0 ∧ f = 4609434218613702656 ∧ e = 0:=by
 cases h with
 | none h => exact absurd h (by decide)
 | int ng A h hr =>
  obtain ⟨-,-,h1,-⟩:=numT_15 h
  cases h1
 | flt ng A F E R h hn hR h1 =>
  obtain ⟨rfl,rfl,rfl,rfl⟩:=numT_15 h
  rw [flV_uni hR flV_15]
  exact ⟨rfl,rfl,rfl,rfl⟩
 | big ng A F E h hn hR =>
  obtain ⟨rfl,rfl,rfl,rfl⟩:=numT_15 h
  have:=flV_uni hR flV_15
  rw [fto.infR_num] at this
  omega
theorem rdV_1 {k i:Int} {f:Nat} {e:Int} (h:fto.RdV [49] k i f e):e = 0:=by
 cases h with
 | none h => exact absurd h (by decide)
 | int ng A h hr => rfl
 | flt ng A F E R h hn hR h1 => rfl
 | big ng A F E h hn hR =>
  obtain ⟨rfl,rfl,rfl,rfl⟩:=numT_1 h
  exact absurd ⟨rfl,rfl,by decide⟩ hn
theorem nm_15:nmO z15 13 = .ok (numV 3 0 4609434218613702656,16):=by
 have hp:pfx z15 13 = (16,16,2):=by kernel_rfl
 have hs:strOfNums (pcZ z15 13 16) = ⟨#[49,46,53]⟩:=by kernel_rfl
 obtain ⟨h1,h2,h3,h4⟩:=rdV_15 (nrO_rd (s:=⟨#[49,46,53]⟩) (by decide))
 unfold nmO numR
 rw [if_pos (by decide),hp]
 simp only
 rw [hs,h1,h2,h3,h4]
 rfl
theorem nm_1c:∃ v,nmO z1c 1 = .ok (v,2):=by
 have hp:pfx z1c 1 = (2,2,1):=by kernel_rfl
 have hs:strOfNums (pcZ z1c 1 2) = ⟨#[49]⟩:=by kernel_rfl
 have h4:=rdV_1 (nrO_rd (s:=⟨#[49]⟩) (by decide))
 unfold nmO numR
 rw [if_pos (by decide),hp]
 simp only
 rw [hs,h4]
 exact ⟨_,rfl⟩
theorem nm_3c:nmO z1c 3 = .error (3,50):=by
 have hp:pfx z1c 3 = (3,3,0):=by kernel_rfl
 unfold nmO numR
 rw [if_pos (by decide),hp]
 rfl
theorem RdO_15:RdO z15 2 = .ok (obj15 (numV 3 0 4609434218613702656),18):=rd15 _ _ nm_15
theorem RdO_1c:RdO z1c 2 = .error (3,50):=by
 obtain ⟨v,hv⟩:=nm_1c
 exact rd1c _ v hv nm_3c
end Go.Proofs.YtdogjghalplohaaGreatDoor.jin
namespace Go.Proofs.YtdogjghalplohaaGreatDoor.jin
open Go.ChangeShapes Go.WideShapes Go.ChangeAt Go.RowKit
open mem Go.Maps
open vl (Vl Vls Fls VlC VlsAt FlsAt Row8 Small SmallI SmallF)
open ints (hide unhide hexV)
open fto (bytZ NumT)
set_option linter.unusedVariables false
set_option linter.unusedSimpArgs false
end Go.Proofs.YtdogjghalplohaaGreatDoor.jin
