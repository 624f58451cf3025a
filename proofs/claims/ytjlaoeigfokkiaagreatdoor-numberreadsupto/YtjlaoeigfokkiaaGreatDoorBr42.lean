import Derived.Test.YtjlaoeigfokkiaaGreatDoorBr16
import Derived.Test.YtjlaoeigfokkiaaGreatDoorBr39
import Derived.Test.YtjlaoeigfokkiaaGreatDoorBr40
import Derived.Test.YtjlaoeigfokkiaaGreatDoorBr30
import Derived.Test.YtjlaoeigfokkiaaGreatDoorBr41
import Derived.Test.YtjlaoeigfokkiaaGreatDoorBr22
namespace Go.Proofs.YtjlaoeigfokkiaaGreatDoor.fto
open Go.ChangeShapes Go.WideShapes Go.ChangeAt Go.RowKit
open mem Go.Sort
open ints (hide unhide)
set_option linter.unusedVariables false
set_option linter.unusedSimpArgs false
def FlV (A F:List Int) (E:Option (Int × Option Bool × List Int)) (R:Nat):Prop:=
 ∃ lo,Lo (dv (trm (A ++ F)) * 10 ^ (exX E - F.length).toNat * k74) (10 ^ (-(exX E - F.length)).toNat) lo ∧ dcm.cpR (roundR (dv (trm (A ++ F)) * 10 ^ (exX E - F.length).toNat * k74) (10 ^ (-(exX E - F.length)).toNat) lo) = R
inductive RdV (l:List Int):Int → Int → Nat → Int → Prop
 | none (h:numP l = false):RdV l 0 0 0 20
 | int (ng:Bool) (A:List Int) (h:NumT l ng A [] none) (hr:inI ng (dv A) = true):RdV l 2 (svI ng (dv A)) 0 0
 | flt (ng:Bool) (A F:List Int) (E:Option (Int × Option Bool × List Int)) (R:Nat) (h:NumT l ng A F E) (hn:¬ isW ng A F E) (hR:FlV A F E R) (h1:R < infR):RdV l 3 0 (ng.toNat * 9223372036854775808 + R) 0
 | big (ng:Bool) (A F:List Int) (E:Option (Int × Option Bool × List Int)) (h:NumT l ng A F E) (hn:¬ isW ng A F E) (hR:FlV A F E infR):RdV l 0 0 0 7
theorem str_bytZ (s:ByteArray):strOfNums (bytZ s) = s:=by
 have:(bytZ s).map (fun n => UInt8.ofNat n.toNat) = s.data.toList:=by
  unfold bytZ
  rw [List.map_map]
  conv => rhs;rw [← List.map_id s.data.toList]
  refine List.map_congr_left fun b _ => ?_
  show UInt8.ofNat ((b.toNat:Int).toNat) = b
  rw [Int.toNat_natCast,UInt8.ofNat_toNat]
 show (⟨((bytZ s).map fun n => UInt8.ofNat n.toNat).toArray⟩:ByteArray) = s
 rw [this]
theorem cpR_le (R:Nat):dcm.cpR R ≤ infR:=by
 unfold dcm.cpR
 split <;> omega
theorem bad_fin (ng:Bool) {R:Nat} (h:R < infR):badF (ng.toNat * 9223372036854775808 + R) = false:=by
 have h':R < 9218868437227405312:=h
 unfold badF
 rw [decide_eq_false_iff_not]
 cases ng <;> simp <;> omega
theorem bad_inf (ng:Bool):badF (ng.toNat * 9223372036854775808 + infR) = true ∧ nanB (ng.toNat * 9223372036854775808 + infR) = false:=by
 cases ng <;> decide
theorem read_bad (s:ByteArray) (hs:s.size ≤ 1050000) (hn:numP (bytZ s) = false) (W:World) :
  Calls Tryz.prog 8 #[.string s] W fun x w' => x = .returned (.tuple #[.agg #[.int .i64 0,.int .i64 0,.float .f64 0],.int .i64 20]) ∧ Below W.heap.size W w':=by
 have hlen:=bytZ_len s
 have hf:formZ (aut (bytZ s)) = 0:=by
  unfold numP at hn
  simpa using of_decide_eq_false hn
 have hl:=pfx_le (bytZ s) 0 (Nat.zero_le _)
 have hk:=pfx_ok (bytZ s) 0 (Nat.zero_le _)
 have hr:=form_rng (aut (((bytZ s).drop 0).take ((pfx (bytZ s) 0).1 - 0)))
 rw [hk.fm] at hr
 exact read_none s (pfx (bytZ s) 0).1 (pfx (bytZ s) 0).2.1 (pfx (bytZ s) 0).2.2 W (by omega) rfl (by omega) hr (by have:=pfx_none (bytZ s) hf;rw [hlen] at this;exact this)
theorem NumT.pfx {s:ByteArray} {ng:Bool} {A F:List Int} {E:Option (Int × Option Bool × List Int)} (h:NumT (bytZ s) ng A F E):pfx (bytZ s) 0 = (s.size,s.size,if F = [] ∧ E = none then 1 else 2):=by
 have hf:=h.num
 have:=pfx_num (bytZ s) (by rw [hf];split <;> decide)
 rw [this,hf,bytZ_len]
theorem NumT.str {s:ByteArray} {ng:Bool} {A F:List Int} {E:Option (Int × Option Bool × List Int)} (h:NumT (bytZ s) ng A F E):s = strOfNums (sgL ng ++ (A ++ (frL F ++ exA E))):=by rw [← h.eq,str_bytZ]
theorem NumT.len {s:ByteArray} {ng:Bool} {A F:List Int} {E:Option (Int × Option Bool × List Int)} (h:NumT (bytZ s) ng A F E):A.length + F.length + (exA E).length ≤ s.size:=by
 have hl:=congrArg List.length h.eq
 rw [bytZ_len] at hl
 simp only [List.length_append] at hl
 have lfr:F.length ≤ (frL F).length:=by unfold frL;split <;> simp_all
 omega
theorem NumT.rng {s:ByteArray} {ng:Bool} {A F:List Int} {E:Option (Int × Option Bool × List Int)} (h:NumT (bytZ s) ng A F E) (hn:¬ isW ng A F E):F = [] ∧ E = none → Lib.parseIntB 64 s.data.toList = .range:=by
 rintro ⟨rfl,rfl⟩
 have hb:=pib_all ng A h.wh.dg h.wh.ne
 rw [if_neg (fun q => hn ⟨rfl,rfl,q⟩)] at hb
 have es:=h.str
 have e2:sgL ng ++ (A ++ (frL [] ++ exA none)) = sgL ng ++ A:=by simp [frL,exA]
 rw [e2] at es
 rw [es]
 exact hb
theorem NumT.exp {s:ByteArray} {ng:Bool} {A F:List Int} {E:Option (Int × Option Bool × List Int)} (h:NumT (bytZ s) ng A F E) (hs:s.size ≤ 1050000):exP E:=by
 have hl:=h.len
 rcases E with _ | ⟨ec,o,X⟩
 ·trivial
 ·obtain ⟨q1,q2,q3⟩:=h.ex _ rfl
  refine ⟨q1,q2,q3,?_⟩
  simp only [exA,List.length_cons,List.length_append] at hl
  omega
theorem read_w (s:ByteArray) (hs:s.size ≤ 1050000) (ng:Bool) (A:List Int) (h:NumT (bytZ s) ng A [] none) (hin:inI ng (dv A) = true) (W:World) :
  Calls Tryz.prog 8 #[.string s] W fun x w' => x = .returned (.tuple #[.agg #[.int .i64 2,.int .i64 (svI ng (dv A)),.float .f64 0],.int .i64 0]) ∧ Below W.heap.size W w':=by
 refine readw_in s _ W (by omega) ?_ ?_
 ·have:=h.pfx
  rw [if_pos ⟨rfl,rfl⟩] at this
  exact this
 ·have hb:=pib_all ng A h.wh.dg h.wh.ne
  rw [if_pos hin] at hb
  have es:=h.str
  have e2:sgL ng ++ (A ++ (frL [] ++ exA none)) = sgL ng ++ A:=by simp [frL,exA]
  rw [e2] at es
  rw [es]
  exact hb
theorem near_any (s:ByteArray) (hs:s.size ≤ 1050000) (ng:Bool) (A F:List Int) (E:Option (Int × Option Bool × List Int)) (h:NumT (bytZ s) ng A F E) (R:Nat) (hR:FlV A F E R) (W:World) (hW:dcm.Fz W) :
  Calls Tryz.prog 20 #[.string s] W fun x w' => x = .returned (.float .f64 (ng.toNat * 9223372036854775808 + R)) ∧ Below W.heap.size W w':=by
 obtain ⟨lo,hlo,C⟩:=nearest_full ng A F E W hW h.wh.dg h.wh.ne h.fr (h.exp hs) (by have:=h.len;omega)
 obtain ⟨lo2,hlo2,rfl⟩:=hR
 obtain rfl:=hlo.unique hlo2
 rw [h.str]
 exact C
theorem FlV.le {A F:List Int} {E:Option (Int × Option Bool × List Int)} {R:Nat} (h:FlV A F E R):R ≤ infR:=by obtain ⟨lo,hlo,rfl⟩:=h;exact cpR_le _
theorem FlV.some (A F:List Int) (E:Option (Int × Option Bool × List Int)):∃ R,FlV A F E R:=by
 obtain ⟨lo,hlo⟩:=dcm.lo_some (dv (trm (A ++ F)) * 10 ^ (exX E - F.length).toNat * k74) (B:=10 ^ (-(exX E - F.length)).toNat) (Nat.pow_pos (by decide))
 exact ⟨_,lo,hlo,rfl⟩
theorem infR_num:infR = 9218868437227405312:=rfl
theorem read_f (s:ByteArray) (hs:s.size ≤ 1050000) (ng:Bool) (A F:List Int) (E:Option (Int × Option Bool × List Int)) (h:NumT (bytZ s) ng A F E) (hn:¬ isW ng A F E) (R:Nat) (hR:FlV A F E R) (hi:R < infR) (W:World) (hW:dcm.Fz W) :
  Calls Tryz.prog 8 #[.string s] W fun x w' => x = .returned (.tuple #[.agg #[.int .i64 3,.int .i64 0,.float .f64 (ng.toNat * 9223372036854775808 + R)],.int .i64 0]) ∧ Below W.heap.size W w':=by
 have hpx:=h.pfx
 have hR64:ng.toNat * 9223372036854775808 + R < 18446744073709551616:=by
  have:=infR_num
  have:=Bool.toNat_le ng
  omega
 by_cases h0:F = [] ∧ E = none
 ·rw [if_pos h0] at hpx
  exact read_wfin s _ W hW (by omega) hR64 (bad_fin ng hi) hpx (h.rng hn h0) (fun W' hW' => near_any s hs ng A F E h R hR W' hW')
 ·rw [if_neg h0] at hpx
  exact read_fin s _ W hW (by omega) hR64 (bad_fin ng hi) hpx (fun W' hW' => near_any s hs ng A F E h R hR W' hW')
theorem read_b (s:ByteArray) (hs:s.size ≤ 1050000) (ng:Bool) (A F:List Int) (E:Option (Int × Option Bool × List Int)) (h:NumT (bytZ s) ng A F E) (hn:¬ isW ng A F E) (hR:FlV A F E infR) (W:World) (hW:dcm.Fz W) :
  Calls Tryz.prog 8 #[.string s] W fun x w' => x = .returned (.tuple #[.agg #[.int .i64 0,.int .i64 0,.float .f64 0],.int .i64 7]) ∧ Below W.heap.size W w':=by
 have hpx:=h.pfx
 have hR64:ng.toNat * 9223372036854775808 + infR < 18446744073709551616:=by
  have:=infR_num
  have:=Bool.toNat_le ng
  omega
 by_cases h0:F = [] ∧ E = none
 ·rw [if_pos h0] at hpx
  exact read_winf s _ W hW (by omega) hR64 (bad_inf ng).2 (bad_inf ng).1 hpx (h.rng hn h0) (fun W' hW' => near_any s hs ng A F E h infR hR W' hW')
 ·rw [if_neg h0] at hpx
  exact read_inf s _ W hW (by omega) hR64 (bad_inf ng).2 (bad_inf ng).1 hpx (fun W' hW' => near_any s hs ng A F E h infR hR W' hW')
end Go.Proofs.YtjlaoeigfokkiaaGreatDoor.fto
