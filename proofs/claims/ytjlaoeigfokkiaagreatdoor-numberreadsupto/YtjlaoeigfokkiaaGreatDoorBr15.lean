import Derived.Test.YtjlaoeigfokkiaaGreatDoorBr14
import Derived.Test.YtjlaoeigfokkiaaGreatDoorBr12
import Derived.Test.YtjlaoeigfokkiaaGreatDoorBr1
import Derived.Test.YtjlaoeigfokkiaaGreatDoorBr11
import Derived.Test.YtjlaoeigfokkiaaGreatDoorBr13
import Derived.Test.YtjlaoeigfokkiaaGreatDoorBr3
namespace Go.Proofs.YtjlaoeigfokkiaaGreatDoor.fto
open Go.ChangeShapes Go.WideShapes Go.ChangeAt Go.RowKit
open mem Go.Sort
open ints (hide unhide)
set_option linter.unusedVariables false
set_option maxHeartbeats 1000000 in
set_option maxRecDepth 100000 in
theorem atof_nought (s:ByteArray) (n:Int) (S:Nat) (p:Int) (ng:Bool) (w:World) (hS:S = if ng then 9223372036854775808 else 0) (hn:0 ≤ n ∧ n ≤ 2000000)
  (opt:w.cell? ⟨5,0,none⟩ = some (.bool true))
  (SP:Calls Tryz.prog 146 #[.string s] w fun e w' => e = .returned (.tuple #[.float .f64 0,.int .i64 0,.bool false]) ∧ w' = w)
  (RF:Calls Tryz.prog 147 #[.string s] w fun e w' => e = .returned (.tuple #[.int .u64 0,.int .i64 p,.bool ng,.bool false,.bool false,.int .i64 n,.bool true]) ∧ w' = w) :
  Calls Tryz.prog 126 #[.string s] w fun e w' => e = .returned (.tuple #[.float .f64 S,.int .i64 n,.nilIface]) ∧ Below w.heap.size w w':=by
 have HSP:=hide SP
 have HRF:=hide RF
 have hfb:=run_fromb
 have o1:bits .or .u64 9223372036854775808 0 = 9223372036854775808:=by decide
 have o0:bits .or .u64 0 0 = 0:=by decide
 have B1:=hide b2_yes
 have B0:=hide b2_no
 clear SP RF
 go_enter Tryz.func126,Tryz.ntmps126
 go_wp2_with fail
 refine (unhide HSP).mono ?_
 rintro e w1 ⟨rfl,hw⟩
 subst w1
 go_wp2_with fail
 refine (unhide HRF).mono ?_
 rintro e w1 ⟨rfl,hw⟩
 subst w1
 cases ng
 all_goals
  simp only [Bool.false_eq_true,if_false,if_true] at hS
  subst hS
  go_wp2_with fail
  first
   | refine (unhide B0 _).mono ?_
   | refine (unhide B1 _).mono ?_
  rintro e w1 ⟨rfl,hw⟩
  subst w1
  go_wp2
  go_ret3
  exact ⟨rfl,Below.refl _ _⟩
theorem pf_nought (k:Nat) (s:ByteArray) (g z:Nat) (h:Ntx s k 0 g z) (hk:k ≤ 1) (w:World) (hopt:w.cell? ⟨5,0,none⟩ = some (.bool true)) :
  Calls Tryz.prog 43 #[.string s,.int .i64 64] w fun e w' => e = .returned (.tuple #[.float .f64 (k * 9223372036854775808),.nilIface]) ∧ Below w.heap.size w w':=by
 have hsz1:s.size ≤ 2000000:=by have:=h.sz;have:=h.m1;have:=h.z1;have:=h.g1;omega
 have hsz2:k + 4 ≤ s.size:=by have:=h.sz;have:=h.z0;omega
 refine pf_in s (k * 9223372036854775808) w hsz1 ?_
 have hk2:k = 0 ∨ k = 1:=by omega
 rcases hk2 with rfl | rfl
 ·have RF:=readF0 s 0 g z w h
  rw [if_pos rfl] at RF
  exact atof_nought s s.size (0 * 9223372036854775808) 0 false w rfl (by omega) hopt (special0 s w (by omega) (by rw [← bz_at];exact h.b1)) RF
 ·have RF:=readF1 s 0 g z w h
  rw [if_pos rfl] at RF
  exact atof_nought s s.size (1 * 9223372036854775808) 0 true w rfl (by omega) hopt (special1 s w (by omega) hsz1 (by omega) (by rw [← bz_at];exact h.b0 rfl) (by rw [← bz_at];exact h.b1)) RF
structure Fy (w:World):Prop where
 fx:Fx w
 opt:w.cell? ⟨5,0,none⟩ = some (.bool true)
 info:w.cell? ⟨9,0,none⟩ = some (.int .u64 52)
 og:5 < w.heap.size
 ig:9 < w.heap.size
 ten:T10 w
theorem Fy.below {w W:World} (h:Fy w) (hb:Below w.heap.size w W):Fy W:=
 ⟨h.fx.below hb,(hb.cell (p:=⟨5,0,none⟩) h.og).trans h.opt,(hb.cell (p:=⟨9,0,none⟩) h.ig).trans h.info,Nat.lt_of_lt_of_le h.og hb.size,Nat.lt_of_lt_of_le h.ig hb.size,h.ten.below hb⟩
end Go.Proofs.YtjlaoeigfokkiaaGreatDoor.fto
namespace Go.Proofs.YtjlaoeigfokkiaaGreatDoor.fto
open Go.ChangeShapes Go.WideShapes Go.ChangeAt Go.RowKit
open mem Go.Sort
open ints (hide unhide)
set_option linter.unusedVariables false
set_option maxHeartbeats 1100000 in
set_option maxRecDepth 100000 in
theorem nearest_in (ng bb:Bool) (s r ms wh fr wf dg T I:ByteArray) (x pw:Int) (R:Nat) (w:World) (hF:Fy w)
  (z1:s.size ≤ 2000000) (z2:ms.size ≤ 2000000) (z3:dg.size ≤ 1100000) (z4:fr.size ≤ 1100000) (z5:wh.size ≤ 1100000) (zr:r.size ≤ 2000000) (zI:I.size ≤ 30) (zk:ng = true → 1 ≤ s.size) (hx:-1000000000000 ≤ x ∧ x ≤ 1000000000000)
  (HP:Lib.hasPrefix s.data.toList (⟨#[45]⟩:ByteArray).data.toList = ng)
  (hr:s.extract ng.toNat s.size = r)
  (CE:∀ W,Calls Tryz.prog 40 #[.string r] W fun e w' => e = .returned (.tuple #[.string ms,.int .i64 x]) ∧ Below W.heap.size W w')
  (hc1:(⟨(Lib.cut ms.data.toList (⟨#[46]⟩:ByteArray).data.toList).1.toArray⟩:ByteArray) = wh) (hc2:(⟨(Lib.cut ms.data.toList (⟨#[46]⟩:ByteArray).data.toList).2.1.toArray⟩:ByteArray) = fr) (hc3:(Lib.cut ms.data.toList (⟨#[46]⟩:ByteArray).data.toList).2.2 = bb)
  (hwf:wh ++ fr = wf) (htr:(⟨(Lib.trimLeftB wf.data.toList 48).toArray⟩:ByteArray) = dg)
  (hpw:max (-400) (min (x + dg.size - fr.size) 400) = pw) (hI:itB pw = I)
  (hT:(if ng then ⟨#[45]⟩ else ⟨#[]⟩) ++ ⟨#[48,46]⟩ ++ dg ++ ⟨#[101]⟩ ++ I = T)
  (PF:∀ W,Fy W → Calls Tryz.prog 43 #[.string T,.int .i64 64] W fun e w' => e = .returned (.tuple #[.float .f64 R,.nilIface]) ∧ Below W.heap.size W w') :
  Calls Tryz.prog 20 #[.string s] w fun e w' => e = .returned (.float .f64 R) ∧ Below w.heap.size w w':=by
 have H1:=Tryz.strings_HasPrefix s ⟨#[45]⟩ w
 rw [HP] at H1
 replace H1:=hide H1
 have HC:=hide CE
 have HCU:=fun (W:World) (hW:Fy W) => Tryz.strings_Cut ms ⟨#[46]⟩ (Classical.choose hW.fx.most) W (by omega) (Classical.choose_spec hW.fx.most)
 simp only [hc1,hc2,hc3] at HCU
 replace HCU:=hide HCU
 have HTR:=fun W => Tryz.strings_TrimLeft_one wf 48 (by decide) W
 simp only [htr] at HTR
 replace HTR:=hide HTR
 have HPF:=hide PF
 have HFy:=hide hF
 have pb:-400 ≤ pw ∧ pw ≤ 400:=by omega
 have HWT:=fun (W:World) (hW:Fy W) => whole_ok pw (by omega) (by omega) W hW.fx
 rw [hI] at HWT
 replace HWT:=hide HWT
 have hpa:max (-400) (min (x + (dg.size:Int) - (fr.size:Int)) 400) = pw:=hpw
 clear PF CE hF hI HP htr hc1 hc2 hc3 hpw
 cases ng
 ·have hr0:s.extract 0 s.size = r:=hr
  have hT0:(⟨#[]⟩:ByteArray) ++ ⟨#[48,46]⟩ ++ dg ++ ⟨#[101]⟩ ++ I = T:=hT
  clear hr hT zk
  go_enter Tryz.func20,Tryz.ntmps20
  go_wp2_with fail
  refine (unhide H1).mono ?_
  rintro e w1 ⟨rfl,hw⟩
  subst w1
  go_wp2_with fail
  refine (unhide HC _).mono ?_
  rintro e w1 ⟨rfl,b1⟩
  have F1:=hide ((unhide HFy).below b1)
  have B1:=hide b1
  clear b1 H1 HC
  go_wp2_with fail
  refine (unhide HCU _ (unhide F1)).mono ?_
  rintro e w2 ⟨rfl,n,rfl⟩
  have F2:=hide ((unhide F1).below (below_dn w1 n))
  have B2:=hide ((unhide B1).trans ((below_dn w1 n).mono (unhide B1).size))
  clear HCU F1 B1
  generalize w1.drewN n = w2 at *
  go_wp2_with fail
  refine (unhide HTR _).mono ?_
  rintro e w3 ⟨rfl,hw⟩
  subst w3
  clear HTR
  go_wp2_with fail
  refine (unhide HWT _ (unhide F2)).mono ?_
  rintro e w3 ⟨rfl,b3⟩
  have F3:=hide ((unhide F2).below b3)
  have B3:=hide ((unhide B2).trans (b3.mono (unhide B2).size))
  clear b3 HWT F2 B2
  go_wp2_with fail
  refine (unhide HPF _ (unhide F3)).mono ?_
  rintro e w4 ⟨rfl,b4⟩
  have B4:=hide ((unhide B3).trans (b4.mono (unhide B3).size))
  clear b4 B3 F3 HPF
  go_wp2
  go_ret
  exact ⟨rfl,unhide B4⟩
 ·have hr0:s.extract 1 s.size = r:=hr
  have hT0:(⟨#[45]⟩:ByteArray) ++ ⟨#[48,46]⟩ ++ dg ++ ⟨#[101]⟩ ++ I = T:=hT
  have zk1:=zk rfl
  have zk2:(1:Int) ≤ s.size:=by omega
  clear hr hT zk
  go_enter Tryz.func20,Tryz.ntmps20
  go_wp2_with fail
  refine (unhide H1).mono ?_
  rintro e w1 ⟨rfl,hw⟩
  subst w1
  go_wp2_with fail
  refine (unhide HC _).mono ?_
  rintro e w1 ⟨rfl,b1⟩
  have F1:=hide ((unhide HFy).below b1)
  have B1:=hide b1
  clear b1 H1 HC
  go_wp2_with fail
  refine (unhide HCU _ (unhide F1)).mono ?_
  rintro e w2 ⟨rfl,n,rfl⟩
  have F2:=hide ((unhide F1).below (below_dn w1 n))
  have B2:=hide ((unhide B1).trans ((below_dn w1 n).mono (unhide B1).size))
  clear HCU F1 B1
  generalize w1.drewN n = w2 at *
  go_wp2_with fail
  refine (unhide HTR _).mono ?_
  rintro e w3 ⟨rfl,hw⟩
  subst w3
  clear HTR
  go_wp2_with fail
  refine (unhide HWT _ (unhide F2)).mono ?_
  rintro e w3 ⟨rfl,b3⟩
  have F3:=hide ((unhide F2).below b3)
  have B3:=hide ((unhide B2).trans (b3.mono (unhide B2).size))
  clear b3 HWT F2 B2
  go_wp2_with fail
  refine (unhide HPF _ (unhide F3)).mono ?_
  rintro e w4 ⟨rfl,b4⟩
  have B4:=hide ((unhide B3).trans (b4.mono (unhide B3).size))
  clear b4 B3 F3 HPF
  go_wp2
  go_ret
  exact ⟨rfl,unhide B4⟩
end Go.Proofs.YtjlaoeigfokkiaaGreatDoor.fto
namespace Go.Proofs.YtjlaoeigfokkiaaGreatDoor.fto
open Go.ChangeShapes Go.WideShapes Go.ChangeAt Go.RowKit
open mem Go.Sort
open ints (hide unhide)
set_option linter.unusedVariables false
theorem str_app (A B:List Int):strOfNums A ++ strOfNums B = strOfNums (A ++ B):=by
 apply ByteArray.ext
 rw [ByteArray.data_append]
 show (u8s A).toArray ++ (u8s B).toArray = (u8s (A ++ B)).toArray
 rw [u8s_app]
 simp
theorem trimB_trm (l:List Int) (h:Dg l):Lib.trimLeftB (u8s l) 48 = u8s (trm l):=by
 unfold Lib.trimLeftB trm
 induction l with
 | nil => rfl
 | cons a l ih =>
  have ha:=h a (by simp)
  have e2:(UInt8.ofNat a.toNat).toNat = a.toNat:=UInt8.toNat_ofNat_of_lt' (by show _ < 256;omega)
  show List.dropWhile _ (UInt8.ofNat a.toNat :: u8s l) = u8s (List.dropWhile _ (a :: l))
  rw [List.dropWhile_cons,List.dropWhile_cons]
  by_cases h48:a = 48
  ·subst h48
   rw [if_pos (by decide),if_pos (by decide)]
   exact ih h.tail
  ·have:¬ UInt8.ofNat a.toNat = 48:=fun e => by rw [e] at e2;have:(48:UInt8).toNat = 48:=rfl;omega
   rw [if_neg (by simpa using this),if_neg (by simpa using h48)]
   rfl
theorem cut_no (c:UInt8) (l:List UInt8) (h:c ∉ l):Lib.cut l [c] = (l,[],false):=by
 unfold Lib.cut
 rw [index_no c l h,if_neg (by decide)]
theorem dg_noE {A F:List Int} (hA:Dg A) (hF:Dg F):NoE (A ++ frL F) ∧ ∀ z ∈ A ++ frL F,0 ≤ z ∧ z < 128:=by
 have hm:∀ z ∈ A ++ frL F,(48 ≤ z ∧ z ≤ 57) ∨ z = 46:=fun z hz => by
  rcases List.mem_append.1 hz with h | h
  ·exact Or.inl (hA z h)
  ·unfold frL at h
   by_cases h0:F = []
   ·rw [if_pos h0] at h;simp at h
   ·rw [if_neg h0] at h
    rcases List.mem_cons.1 h with h | h
    ·exact Or.inr h
    ·exact Or.inl (hF z h)
 refine ⟨⟨fun z hz => ?_,fun h => ?_,fun h => ?_⟩,fun z hz => ?_⟩
 ·have:=hm z hz;omega
 ·have:=hm _ h;omega
 ·have:=hm _ h;omega
 ·have:=hm z hz;omega
def exS:Option (Bool × List Int) → Prop
 | none => True
 | some (_,X) => X.length ≤ 10
def pwr (A F:List Int) (E:Option (Bool × List Int)):Int:=max (-400) (min (exV E + (trm (A ++ F)).length - F.length) 400)
theorem nearest_text (ng:Bool) (A F:List Int) (E:Option (Bool × List Int)) (R:Nat) (w:World) (hW:Fy w) (hA:Dg A) (hA0:A ≠ []) (hF:Dg F) (hE:exO E) (hX:exS E) (lA:A.length ≤ 100000) (lF:F.length ≤ 100000)
  (PF:∀ W,Fy W → Calls Tryz.prog 43 #[.string (strOfNums (ntZ ng (trm (A ++ F)) (pwr A F E))),.int .i64 64] W fun e w' => e = .returned (.tuple #[.float .f64 R,.nilIface]) ∧ Below W.heap.size W w') :
  Calls Tryz.prog 20 #[.string (strOfNums (sgL ng ++ (A ++ (frL F ++ exL E))))] w fun e w' => e = .returned (.float .f64 R) ∧ Below w.heap.size w w':=by
 obtain ⟨n1,n2⟩:=dg_noE hA hF
 have hD:=hA.app hF
 have lT:=trm_len (A ++ F)
 rw [List.length_append] at lT
 have lfr:(frL F).length ≤ F.length + 1:=by unfold frL;split <;> simp
 have lsg:(sgL ng).length = ng.toNat:=by cases ng <;> rfl
 have lex:(exL E).length ≤ 12:=by
  cases E with
  | none => simp [exL]
  | some q =>
   obtain ⟨g,X⟩:=q
   have:X.length ≤ 10:=hX
   cases g <;> simp [exL,sgL] <;> omega
 have hxv:-1000000000000 ≤ exV E ∧ exV E ≤ 1000000000000:=by
  cases E with
  | none => simp [exV]
  | some q =>
   obtain ⟨g,X⟩:=q
   have h1:X.length ≤ 10:=hX
   have h2:dv X < 10 ^ X.length:=dv_lt X hE.1
   have h3:10 ^ X.length ≤ 10 ^ 10:=Nat.pow_le_pow_right (by decide) h1
   have h4:(10:Nat) ^ 10 = 10000000000:=rfl
   unfold exV
   cases g <;> simp <;> omega
 have hcut:Lib.cut (u8s (A ++ frL F)) [46] = (u8s A,u8s F,decide (F ≠ [])):=by
  have hn:(46:UInt8) ∉ u8s A:=dig_not hA (by decide)
  by_cases h0:F = []
  ·subst h0
   rw [show A ++ frL [] = A by simp [frL],cut_no 46 _ hn]
   rfl
  ·rw [show A ++ frL F = A ++ 46 :: F by simp [frL,h0],u8s_app]
   show Lib.cut (u8s A ++ 46 :: u8s F) [46] = _
   rw [cut_at 46 _ _ hn]
   simp [h0]
 refine nearest_in ng (decide (F ≠ [])) _ (strOfNums (A ++ (frL F ++ exL E))) (strOfNums (A ++ frL F)) (strOfNums A) (strOfNums F) (strOfNums (A ++ F)) (strOfNums (trm (A ++ F))) (strOfNums (ntZ ng (trm (A ++ F)) (pwr A F E))) (itB (pwr A F E)) (exV E) (pwr A F E) R w hW ?_ ?_ ?_ ?_ ?_ ?_ ?_ ?_ hxv ?_ ?_ ?_ ?_ ?_ ?_ ?_ ?_ ?_ rfl ?_ PF
 ·rw [str_size];simp only [List.length_append];have:=Bool.toNat_le ng;omega
 ·rw [str_size,List.length_append];omega
 ·rw [str_size];omega
 ·rw [str_size];omega
 ·rw [str_size];omega
 ·rw [str_size];simp only [List.length_append];omega
 ·have:=itB_size (pwr A F E) (by unfold pwr;omega) (by unfold pwr;omega);omega
 ·intro h;subst h;rw [str_size];simp [sgL]
 ·show Lib.hasPrefix (u8s (sgL ng ++ (A ++ (frL F ++ exL E)))) [45] = ng
  cases ng
  ·obtain ⟨a,A',rfl⟩:∃ a A',A = a :: A':=by
    cases A with
    | nil => exact absurd rfl hA0
    | cons a A' => exact ⟨a,A',rfl⟩
   have ha:=hA a (by simp)
   have e2:(UInt8.ofNat a.toNat).toNat = a.toNat:=UInt8.toNat_ofNat_of_lt' (by show _ < 256;omega)
   have:¬ UInt8.ofNat a.toNat = 45:=fun e => by rw [e] at e2;have:(45:UInt8).toNat = 45:=rfl;omega
   show ([45]:List UInt8).isPrefixOf (UInt8.ofNat a.toNat :: _) = false
   simp only [List.isPrefixOf]
   have h2:((45:UInt8) == UInt8.ofNat a.toNat) = false:=by rw [beq_eq_false_iff_ne];exact fun e => this e.symm
   rw [h2];rfl
  ·show ([45]:List UInt8).isPrefixOf (45 :: _) = true
   simp [List.isPrefixOf]
 ·exact ext_right (sgL ng) (A ++ (frL F ++ exL E)) lsg.symm (by rw [str_size])
 ·intro W
  cases E with
  | none =>
   rw [show A ++ (frL F ++ exL none) = A ++ frL F by simp [exL]]
   exact cutE_no (A ++ frL F) W n1 n2 (by rw [List.length_append];omega)
  | some q =>
   obtain ⟨g,X⟩:=q
   rw [← List.append_assoc]
   exact cutE_at (A ++ frL F) X g W n1 n2 (by rw [List.length_append];omega) hE.1 hE.2 hX
 ·show (⟨(Lib.cut (u8s (A ++ frL F)) [46]).1.toArray⟩:ByteArray) = _
  rw [hcut];rfl
 ·show (⟨(Lib.cut (u8s (A ++ frL F)) [46]).2.1.toArray⟩:ByteArray) = _
  rw [hcut];rfl
 ·show (Lib.cut (u8s (A ++ frL F)) [46]).2.2 = _
  rw [hcut]
 ·exact str_app A F
 ·show (⟨(Lib.trimLeftB (u8s (A ++ F)) 48).toArray⟩:ByteArray) = _
  rw [trimB_trm _ hD];rfl
 ·rw [str_size,str_size];rfl
 ·rw [itB_itZ]
  have e1:(if ng = true then (⟨#[45]⟩:ByteArray) else ⟨#[]⟩) = strOfNums (sgL ng):=by cases ng <;> rfl
  have e2:(⟨#[48,46]⟩:ByteArray) = strOfNums [48,46]:=rfl
  have e3:(⟨#[101]⟩:ByteArray) = strOfNums [101]:=rfl
  rw [e1,e2,e3,str_app,str_app,str_app,str_app]
  congr 1
  simp [ntZ]
theorem pf_text (ng:Bool) (D:List Int) (x:Int) (a:Nat) (hD:Dg D) (hne:D ≠ []) (h0:∀ r,D ≠ 48 :: r) (hl:D.length ≤ 100000) (h19:∀ z ∈ D.drop 19,z = 48) (hx:x.natAbs < 10000) (hR:Rd (dv D) (x - D.length) a) (ha:0 < a) (hai:a < infR) (W:World) (hW:Fy W) :
  Calls Tryz.prog 43 #[.string (strOfNums (ntZ ng D x)),.int .i64 64] W fun e w' => e = .returned (.tuple #[.float .f64 (ng.toNat * 9223372036854775808 + a),.nilIface]) ∧ Below W.heap.size W w':=by
 have N:=ntx_of ng D x hD (by omega) h0 hx
 have hlp:0 < D.length:=List.length_pos_iff.2 hne
 obtain ⟨d,hd⟩:∃ d,d = mvs (strOfNums (ntZ ng D x)) (ng.toNat + 2) (min D.length 19):=⟨_,rfl⟩
 have hd2:d = dv (D.take 19):=by
  rw [hd,ntx_mant ng D x hD _ (Nat.min_le_left _ _)]
  congr 1
  rcases Nat.le_total D.length 19 with h | h
  ·rw [Nat.min_eq_left h,List.take_of_length_le (Nat.le_refl _),List.take_of_length_le h]
  ·rw [Nat.min_eq_right h]
 have hT:D.drop 19 = List.replicate (D.length - 19) 48:=by
  rw [List.eq_replicate_iff]
  exact ⟨by rw [List.length_drop],h19⟩
 have hv:dv D = d * 10 ^ (D.length - 19):=by
  rw [hd2]
  conv => lhs;rw [← List.take_append_drop 19 D,dv_app,hT,dv_zeros,List.length_replicate,Nat.add_zero]
 obtain ⟨p,hp⟩:∃ p:Int,p = x - (min D.length 19:Nat):=⟨_,rfl⟩
 have hR2:Rd d p a:=by
  rw [hv] at hR
  have:=rd_scale.1 hR
  rw [show x - (D.length:Int) + ((D.length - 19:Nat):Int) = p by omega] at this
  exact this
 have hd0:1 ≤ d:=by
  rcases Nat.eq_zero_or_pos d with h | h
  ·exfalso
   subst h
   have h1:=hR2.1
   simp only [Nat.zero_mul,Nat.mul_zero] at h1
   have hB:0 < 10 ^ (-p).toNat:=Nat.pow_pos (by decide)
   have hm:0 < midR (a - 1):=by unfold midR;have:=Nat.two_pow_pos (exR (a - 1));omega
   have:=Nat.mul_pos hB hm
   omega
  ·exact h
 have hd1:d < 18446744073709551616:=by
  rw [hd2]
  have h1:=dv_lt (D.take 19) (fun z hz => hD z (List.mem_of_mem_take hz))
  have h2:10 ^ (D.take 19).length ≤ 10 ^ 19:=Nat.pow_le_pow_right (by decide) (by rw [List.length_take];omega)
  exact Nat.lt_of_lt_of_le h1 (Nat.le_trans h2 (by decide))
 have hrng:=rd_rng hR2 hd0 hd1 hai
 have hpe:p = (if (decide (x < 0)).toNat = 1 then - (mvs (strOfNums (ntZ ng D x)) (ng.toNat + 3 + D.length + (decide (x < 0)).toNat) (dz x.natAbs).length:Int) else (mvs (strOfNums (ntZ ng D x)) (ng.toNat + 3 + D.length + (decide (x < 0)).toNat) (dz x.natAbs).length:Int)) - (min D.length 19:Nat):=by
  rw [ntx_exp ng D x hD,hp]
  by_cases h:x < 0
  ·rw [decide_eq_true h];simp;omega
  ·rw [decide_eq_false h];simp;omega
 obtain ⟨lo,hlo,H⟩:=pf_any ng.toNat _ D.length _ _ d p N (Bool.toNat_le _) hlp (ntx_trs ng D x hD h19) hd hpe hrng
 have hra:roundR (d * 10 ^ p.toNat * k74) (10 ^ (-p).toNat) lo = a:=(round_iff (Nat.pow_pos (by decide)) ha hlo).2 hR2
 have H2:=H (by rw [hra];exact hai) W
 have e:=H2 (hW.fx.fw.pt) hW.fx.fw.g hW.opt (fun S ng' hS => ex_any d p ng' S lo W hd0 hd1 hrng hW.info hW.ten hS hlo (by rw [hra];exact hai))
 rw [hra] at e
 exact e
theorem pf_text0 (ng:Bool) (x:Int) (hx:x.natAbs < 10000) (W:World) (hW:Fy W) :
  Calls Tryz.prog 43 #[.string (strOfNums (ntZ ng [] x)),.int .i64 64] W fun e w' => e = .returned (.tuple #[.float .f64 (ng.toNat * 9223372036854775808),.nilIface]) ∧ Below W.heap.size W w':=
 pf_nought ng.toNat _ _ _ (ntx_of ng [] x Dg.nil (by simp) (fun r => by simp) hx) (Bool.toNat_le _) W hW.opt
end Go.Proofs.YtjlaoeigfokkiaaGreatDoor.fto
namespace Go.Proofs.YtjlaoeigfokkiaaGreatDoor.mem
open Go.ChangeShapes Go.WideShapes Go.ChangeAt Go.RowKit
open ints (hide unhide)
set_option linter.unusedVariables false
theorem is_b (a:Option Addr) (n c:Nat) (l:List Int) (p:Nat) (x:Int) (w:World) (h:Row .u8 w a n c l) (hn:n ≤ 4611686018427387904) (hp:p ≤ 4611686018427387904) :
  Calls Tryz.prog 30 #[.slice a n c,.int .i64 (p:Int),.int .u8 x] w fun e w' => e = .returned (.bool (isAt l p x)) ∧ Below w.heap.size w w':=by
 by_cases hlt:p < n
 ·rcases h.at_ with h0 | ⟨b,off,rfl,hbw,hcell⟩
  ·omega
  have c1:=hcell p hlt
  have HI:=hide (show isAt l p x = (l.getD p 0 == x) from isAt_of (by rw [h.len];exact hlt) x)
  have pi:(p:Int) < (n:Int):=by omega
  rw [unhide HI]
  generalize l.getD p 0 = y at *
  clear hcell
  go_enter Tryz.func30,Tryz.ntmps30
  cases e1:(y == x)
  all_goals
   go_wp2
   go_ret
   exact ⟨rfl,Below.refl _ _⟩
 ·have HI:=hide (show isAt l p x = false from isAt_not (by rw [h.len];exact hlt) x)
  have pi:¬ (p:Int) < (n:Int):=by omega
  rw [unhide HI]
  go_enter Tryz.func30,Tryz.ntmps30
  go_wp2
  go_ret
  exact ⟨rfl,Below.refl _ _⟩
theorem digs_b (a:Option Addr) (n c:Nat) (l:List Int) (p:Nat) (w:World) (h:Row .u8 w a n c l) (hn:n ≤ 4611686018427387904) (hp:p ≤ 4611686018427387904) :
  Calls Tryz.prog 55 #[.slice a n c,.int .i64 (p:Int)] w fun e w' => e = .returned (.int .i64 (digs l p:Nat)) ∧ Below w.heap.size w w':=by
 go_enter Tryz.func55,Tryz.ntmps55
 go_wp2
 go_loopw [1] (fun v wr => ∃ k:Nat,k ≤ 4611686018427387904 ∧ v = .int .i64 k ∧ digs l p = digs l k ∧ Below w.heap.size w wr) (fun v _ => n - (intOf v).toNat)
 case atStart => exact ⟨p,hp,rfl,rfl,Below.refl _ _⟩
 case round =>
  obtain ⟨k,hk,rfl,heq,hbel⟩:=hrel
  have HE:=hide heq
  clear heq
  by_cases hlt:k < n
  ·rcases h.at_ with h0 | ⟨b,off,rfl,hbw,hcell⟩
   ·omega
   have c1:=(hbel.cell (p:=⟨b,off + k,none⟩) hbw).trans (hcell k hlt)
   have HD:=hide (show digAt l k = digB (l.getD k 0) from digAt_of (by rw [h.len];exact hlt))
   have ki:(k:Int) < (n:Int):=by omega
   generalize l.getD k 0 = y at *
   clear hcell
   by_cases h1:48 ≤ y
   ·by_cases h2:y ≤ 57
    ·have hd:=hide (show digAt l k = true from by rw [unhide HD];simp [digB,h1,h2])
     go_wp2
     go_roundw
     case rel => exact ⟨k + 1,by omega,by go_num,by rw [unhide HE,digs_yes (unhide hd)],hbel⟩
     case measure => simp [intOf];omega
    ·have hd:=hide (show digAt l k = false from by rw [unhide HD];simp [digB,h1,h2])
     go_wp2
     go_ret
     rw [unhide HE,digs_no (unhide hd)]
     exact ⟨rfl,hbel⟩
   ·have hd:=hide (show digAt l k = false from by rw [unhide HD];simp [digB,h1])
    go_wp2
    go_ret
    rw [unhide HE,digs_no (unhide hd)]
    exact ⟨rfl,hbel⟩
  ·have ki:¬ (k:Int) < (n:Int):=by omega
   have hd:=hide (show digAt l k = false from digAt_not (by rw [h.len];exact hlt))
   go_wp2
   go_ret
   rw [unhide HE,digs_no (unhide hd)]
   exact ⟨rfl,hbel⟩
theorem isq_b (a:Option Addr) (n c:Nat) (l:List Int) (p:Nat) (q:Int) (hq:q = (p:Int)) (x:Int) (w:World) (h:Row .u8 w a n c l) (hn:n ≤ 4611686018427387904) (hp:p ≤ 4611686018427387904) :
  Calls Tryz.prog 30 #[.slice a n c,.int .i64 q,.int .u8 x] w fun e w' => e = .returned (.bool (isAt l p x)) ∧ Below w.heap.size w w':=by
 subst hq;exact is_b a n c l p x w h hn hp
theorem point_b (a:Option Addr) (n c:Nat) (l:List Int) (p:Nat) (w:World) (h:Row .u8 w a n c l) (hn:n ≤ 4611686018427387904) (hp:p ≤ 4611686018427387904) :
  Calls Tryz.prog 33 #[.slice a n c,.int .i64 (p:Int)] w fun e w' => e = .returned (.int .i64 (bPoint l p:Nat)) ∧ Below w.heap.size w w':=by
 go_enter Tryz.func33,Tryz.ntmps33
 go_wp2_with fail
 refine (is_b a n c l p 46 w h hn hp).mono ?_
 rintro e w1 ⟨rfl,b1⟩
 cases e1:isAt l p 46
 all_goals
  go_wp2
  go_ret
  exact ⟨by unfold bPoint;rw [e1];go_num,b1⟩
theorem mark_b (a:Option Addr) (n c:Nat) (l:List Int) (p:Nat) (w:World) (h:Row .u8 w a n c l) (hn:n ≤ 4611686018427387904) (hp:p ≤ 4611686018427387903) :
  Calls Tryz.prog 34 #[.slice a n c,.int .i64 (p:Int)] w fun e w' => e = .returned (.int .i64 (bMark l p:Nat)) ∧ Below w.heap.size w w':=by
 go_enter Tryz.func34,Tryz.ntmps34
 go_wp2_with fail
 refine (is_b a n c l p 101 w h hn (by omega)).mono ?_
 rintro e w1 ⟨rfl,b1⟩
 cases e1:isAt l p 101
 ·go_wp2_with fail
  refine (is_b a n c l p 69 w1 (h.below b1) hn (by omega)).mono ?_
  rintro e w2 ⟨rfl,b2⟩
  have b2:=b1.trans (b2.mono b1.size)
  cases e2:isAt l p 69
  ·go_wp2
   go_ret
   exact ⟨by unfold bMark;rw [if_pos ⟨e1,e2⟩];rfl,b2⟩
  ·go_wp2_with fail
   refine (isq_b a n c l (p + 1) _ (by omega) 43 w2 (h.below b2) hn (by omega)).mono ?_
   rintro e w3 ⟨rfl,b3⟩
   have b3:=b2.trans (b3.mono b2.size)
   cases e3:isAt l (p + 1) 43
   ·go_wp2_with fail
    refine (isq_b a n c l (p + 1) _ (by omega) 45 w3 (h.below b3) hn (by omega)).mono ?_
    rintro e w4 ⟨rfl,b4⟩
    have b4:=b3.trans (b4.mono b3.size)
    cases e4:isAt l (p + 1) 45
    ·go_wp2
     go_ret
     exact ⟨by unfold bMark;rw [if_neg (by simp [e2]),if_neg (by simp [e3,e4])];go_num,b4⟩
    ·go_wp2
     go_ret
     exact ⟨by unfold bMark;rw [if_neg (by simp [e2]),if_pos (.inr e4)];go_num,b4⟩
   ·go_wp2
    go_ret
    exact ⟨by unfold bMark;rw [if_neg (by simp [e2]),if_pos (.inl e3)];go_num,b3⟩
 ·go_wp2_with fail
  refine (isq_b a n c l (p + 1) _ (by omega) 43 w1 (h.below b1) hn (by omega)).mono ?_
  rintro e w3 ⟨rfl,b3⟩
  have b3:=b1.trans (b3.mono b1.size)
  cases e3:isAt l (p + 1) 43
  ·go_wp2_with fail
   refine (isq_b a n c l (p + 1) _ (by omega) 45 w3 (h.below b3) hn (by omega)).mono ?_
   rintro e w4 ⟨rfl,b4⟩
   have b4:=b3.trans (b4.mono b3.size)
   cases e4:isAt l (p + 1) 45
   ·go_wp2
    go_ret
    exact ⟨by unfold bMark;rw [if_neg (by simp [e1]),if_neg (by simp [e3,e4])];go_num,b4⟩
   ·go_wp2
    go_ret
    exact ⟨by unfold bMark;rw [if_neg (by simp [e1]),if_pos (.inr e4)];go_num,b4⟩
  ·go_wp2
   go_ret
   exact ⟨by unfold bMark;rw [if_neg (by simp [e1]),if_pos (.inl e3)];go_num,b3⟩
theorem whole_b (a:Option Addr) (n c:Nat) (l:List Int) (p:Nat) (w:World) (h:Row .u8 w a n c l) (hn:n ≤ 4611686018427387904) (hp:p ≤ 4611686018427387904) :
  Calls Tryz.prog 31 #[.slice a n c,.int .i64 (p:Int)] w fun e w' => e = .returned (.int .i64 (bWhole l p:Nat)) ∧ Below w.heap.size w w':=by
 go_enter Tryz.func31,Tryz.ntmps31
 go_wp2_with fail
 refine (is_b a n c l p 48 w h hn hp).mono ?_
 rintro e w1 ⟨rfl,b1⟩
 cases e1:isAt l p 48
 ·go_wp2_with fail
  refine (digs_b a n c l p w1 (h.below b1) hn hp).mono ?_
  rintro e w2 ⟨rfl,b2⟩
  have b2:=b1.trans (b2.mono b1.size)
  go_wp2
  go_ret
  exact ⟨by unfold bWhole;rw [e1];rfl,b2⟩
 ·go_wp2
  go_ret
  exact ⟨by unfold bWhole;rw [e1];go_num,b1⟩
theorem wholeq_b (a:Option Addr) (n c:Nat) (l:List Int) (p:Nat) (q:Int) (hq:q = (p:Int)) (w:World) (h:Row .u8 w a n c l) (hn:n ≤ 4611686018427387904) (hp:p ≤ 4611686018427387904) :
  Calls Tryz.prog 31 #[.slice a n c,.int .i64 q] w fun e w' => e = .returned (.int .i64 (bWhole l p:Nat)) ∧ Below w.heap.size w w':=by
 subst hq;exact whole_b a n c l p w h hn hp
theorem part_b (a:Option Addr) (n c:Nat) (l:List Int) (p first:Nat) (w:World) (h:Row .u8 w a n c l) (hn:n ≤ 4611686018427387904) (hp:p ≤ 4611686018427387904) (hf:first ≤ 4611686018427387904) :
  Calls Tryz.prog 32 #[.slice a n c,.int .i64 (p:Int),.int .i64 (first:Int)] w fun e w' => e = .returned (.tuple #[.int .i64 ((bPart l p first).1:Nat),.int .i64 ((bPart l p first).2:Nat)]) ∧ Below w.heap.size w w':=by
 go_enter Tryz.func32,Tryz.ntmps32
 by_cases e1:first = p
 ·have e1i:((first:Int) == (p:Int)) = true:=by simp [e1]
  go_wp2
  go_ret2
  exact ⟨by unfold bPart;rw [if_pos e1];rfl,Below.refl _ _⟩
 ·have e1i:((first:Int) == (p:Int)) = false:=by simp;omega
  go_wp2_with fail
  refine (digs_b a n c l first w h hn hf).mono ?_
  rintro e w1 ⟨rfl,b1⟩
  by_cases e2:digs l first = first
  ·have e2i:((digs l first:Int) == (first:Int)) = true:=by simp [e2]
   go_wp2
   go_ret2
   exact ⟨by unfold bPart;rw [if_neg e1,if_pos e2,e2];rfl,b1⟩
  ·have e2i:((digs l first:Int) == (first:Int)) = false:=by simp;omega
   go_wp2
   go_ret2
   exact ⟨by unfold bPart;rw [if_neg e1,if_neg e2];rfl,b1⟩
set_option maxHeartbeats 1000000 in
theorem prefix_in_b (a:Option Addr) (n c:Nat) (l:List Int) (p:Nat) (w:World) (h:Row .u8 w a n c l) (hn:n ≤ 4611686018427387900) (hp:p ≤ n) :
  Calls Tryz.prog 15 #[.slice a n c,.int .i64 (p:Int)] w fun e w' => e = .returned (.tuple #[.int .i64 ((pfx l p).1:Nat),.int .i64 ((pfx l p).2.1:Nat),.int .i64 (pfx l p).2.2]) ∧ Below w.heap.size w w':=by
 go_enter Tryz.func15,Tryz.ntmps15
 have h0:¬ (p:Int) < 0:=by omega
 have h1:¬ (n:Int) < (p:Int):=by omega
 go_wp2_with fail
 refine (is_b a n c l p 45 w h (by omega) (by omega)).mono ?_
 rintro e w1 ⟨rfl,b1⟩
 cases e1:isAt l p 45
 ·have hF:=hide (show pfxFirst l p = p from by unfold pfxFirst;rw [e1];rfl)
  clear e1
  have HL:=hide h.len
  have hF1:=whole_le (l:=l) (p:=p) (by rw [h.len];omega)
  rw [h.len] at hF1
  go_wp2_with fail
  refine (wholeq_b a n c l (p) _ (by omega) w1 (h.below b1) (by omega) (by omega)).mono ?_
  rintro e w2 ⟨rfl,b2⟩
  have b2:=b1.trans (b2.mono b1.size)
  by_cases e2:bWhole l (p) = p
  ·have e2i:((bWhole l (p):Int) == (p:Int)) = true:=by simp;omega
   have HE2:=hide e2
   clear e2
   go_wp2
   go_ret3
   exact ⟨by unfold pfx;rw [unhide hF,if_pos (unhide HE2)];rfl,b2⟩
  ·have e2i:((bWhole l (p):Int) == (p:Int)) = false:=by simp;omega
   have HP:=hide (show pfx l p = ((pfxR l (bWhole l (p))).1,(pfxR l (bWhole l (p))).2,if (pfxR l (bWhole l (p))).1 > bWhole l (p) then 2 else 1) from by unfold pfx;rw [unhide hF,if_neg e2])
   clear e2
   generalize bWhole l (p) = E at *
   have hq1:=point_le (l:=l) (p:=E) (by rw [unhide HL];exact hF1)
   have hq2:=part_le (l:=l) (p:=E) (f:=bPoint l E) (by rw [unhide HL];exact hF1) hq1
   rw [unhide HL] at hq1 hq2
   go_wp2_with fail
   refine (point_b a n c l E w2 (h.below b2) (by omega) (by omega)).mono ?_
   rintro e w3 ⟨rfl,b3⟩
   have b3:=b2.trans (b3.mono b2.size)
   go_wp2_with fail
   refine (part_b a n c l E (bPoint l E) w3 (h.below b3) (by omega) (by omega) (by omega)).mono ?_
   rintro e w4 ⟨rfl,b4⟩
   have b4:=b3.trans (b4.mono b3.size)
   have HR:=hide (show pfxR l E = if (bPart l E (bPoint l E)).1 = (bPart l E (bPoint l E)).2 then bPart l (bPart l E (bPoint l E)).1 (bMark l (bPart l E (bPoint l E)).1) else bPart l E (bPoint l E) from rfl)
   clear hq1
   generalize bPart l E (bPoint l E) = R at *
   obtain ⟨R1,R2⟩:=R
   simp only at hq2
   by_cases e3:R1 = R2
   ·have e3i:((R1:Int) == (R2:Int)) = true:=by simp;omega
    have HR2:=hide (show pfxR l E = bPart l R1 (bMark l R1) from by rw [unhide HR];exact if_pos e3)
    clear HR
    clear e3i
    subst e3
    have e3i:((R1:Int) == (R1:Int)) = true:=by simp
    have hm1:=mark_le (l:=l) (p:=R1) (by rw [unhide HL];exact hq2.1)
    rw [unhide HL] at hm1
    go_wp2_with fail
    refine (mark_b a n c l R1 w4 (h.below b4) (by omega) (by omega)).mono ?_
    rintro e w5 ⟨rfl,b5⟩
    have b5:=b4.trans (b5.mono b4.size)
    go_wp2_with fail
    refine (part_b a n c l R1 (bMark l R1) w5 (h.below b5) (by omega) (by omega) (by omega)).mono ?_
    rintro e w6 ⟨rfl,b6⟩
    have b6:=b5.trans (b6.mono b5.size)
    clear hm1 e3i
    rw [unhide HR2] at HP
    generalize bPart l R1 (bMark l R1) = S at *
    obtain ⟨S1,S2⟩:=S
    by_cases e4:E < S1
    ·have HQ:=hide (show pfx l p = (S1,S2,2) from by rw [unhide HP];simp [e4])
     have e4i:(E:Int) < (S1:Int):=by omega
     clear HP HR2
     go_wp2
     go_ret3
     exact ⟨by rw [unhide HQ];rfl,b6⟩
    ·have HQ:=hide (show pfx l p = (S1,S2,1) from by rw [unhide HP];simp [e4])
     have e4i:¬ (E:Int) < (S1:Int):=by omega
     clear HP HR2
     go_wp2
     go_ret3
     exact ⟨by rw [unhide HQ];rfl,b6⟩
   ·have e3i:((R1:Int) == (R2:Int)) = false:=by simp;omega
    have HR2:=hide (show pfxR l E = (R1,R2) from by rw [unhide HR];exact if_neg e3)
    clear HR e3
    rw [unhide HR2] at HP
    by_cases e4:E < R1
    ·have HQ:=hide (show pfx l p = (R1,R2,2) from by rw [unhide HP];simp [e4])
     have e4i:(E:Int) < (R1:Int):=by omega
     clear HP HR2
     go_wp2
     go_ret3
     exact ⟨by rw [unhide HQ];rfl,b4⟩
    ·have HQ:=hide (show pfx l p = (R1,R2,1) from by rw [unhide HP];simp [e4])
     have e4i:¬ (E:Int) < (R1:Int):=by omega
     clear HP HR2
     go_wp2
     go_ret3
     exact ⟨by rw [unhide HQ];rfl,b4⟩
 ·have hF:=hide (show pfxFirst l p = p + 1 from by unfold pfxFirst;rw [e1];rfl)
  have hpl:=isAt_lt e1
  rw [h.len] at hpl
  clear e1
  have HL:=hide h.len
  have hF1:=whole_le (l:=l) (p:=p + 1) (by rw [h.len];omega)
  rw [h.len] at hF1
  go_wp2_with fail
  refine (wholeq_b a n c l (p + 1) _ (by omega) w1 (h.below b1) (by omega) (by omega)).mono ?_
  rintro e w2 ⟨rfl,b2⟩
  have b2:=b1.trans (b2.mono b1.size)
  by_cases e2:bWhole l (p + 1) = p + 1
  ·have e2i:((bWhole l (p + 1):Int) == ((p:Int) + 1)) = true:=by simp;omega
   have HE2:=hide e2
   clear e2
   go_wp2
   go_ret3
   exact ⟨by unfold pfx;rw [unhide hF,if_pos (unhide HE2)];rfl,b2⟩
  ·have e2i:((bWhole l (p + 1):Int) == ((p:Int) + 1)) = false:=by simp;omega
   have HP:=hide (show pfx l p = ((pfxR l (bWhole l (p + 1))).1,(pfxR l (bWhole l (p + 1))).2,if (pfxR l (bWhole l (p + 1))).1 > bWhole l (p + 1) then 2 else 1) from by unfold pfx;rw [unhide hF,if_neg e2])
   clear e2
   generalize bWhole l (p + 1) = E at *
   have hq1:=point_le (l:=l) (p:=E) (by rw [unhide HL];exact hF1)
   have hq2:=part_le (l:=l) (p:=E) (f:=bPoint l E) (by rw [unhide HL];exact hF1) hq1
   rw [unhide HL] at hq1 hq2
   go_wp2_with fail
   refine (point_b a n c l E w2 (h.below b2) (by omega) (by omega)).mono ?_
   rintro e w3 ⟨rfl,b3⟩
   have b3:=b2.trans (b3.mono b2.size)
   go_wp2_with fail
   refine (part_b a n c l E (bPoint l E) w3 (h.below b3) (by omega) (by omega) (by omega)).mono ?_
   rintro e w4 ⟨rfl,b4⟩
   have b4:=b3.trans (b4.mono b3.size)
   have HR:=hide (show pfxR l E = if (bPart l E (bPoint l E)).1 = (bPart l E (bPoint l E)).2 then bPart l (bPart l E (bPoint l E)).1 (bMark l (bPart l E (bPoint l E)).1) else bPart l E (bPoint l E) from rfl)
   clear hq1
   generalize bPart l E (bPoint l E) = R at *
   obtain ⟨R1,R2⟩:=R
   simp only at hq2
   by_cases e3:R1 = R2
   ·have e3i:((R1:Int) == (R2:Int)) = true:=by simp;omega
    have HR2:=hide (show pfxR l E = bPart l R1 (bMark l R1) from by rw [unhide HR];exact if_pos e3)
    clear HR
    clear e3i
    subst e3
    have e3i:((R1:Int) == (R1:Int)) = true:=by simp
    have hm1:=mark_le (l:=l) (p:=R1) (by rw [unhide HL];exact hq2.1)
    rw [unhide HL] at hm1
    go_wp2_with fail
    refine (mark_b a n c l R1 w4 (h.below b4) (by omega) (by omega)).mono ?_
    rintro e w5 ⟨rfl,b5⟩
    have b5:=b4.trans (b5.mono b4.size)
    go_wp2_with fail
    refine (part_b a n c l R1 (bMark l R1) w5 (h.below b5) (by omega) (by omega) (by omega)).mono ?_
    rintro e w6 ⟨rfl,b6⟩
    have b6:=b5.trans (b6.mono b5.size)
    clear hm1 e3i
    rw [unhide HR2] at HP
    generalize bPart l R1 (bMark l R1) = S at *
    obtain ⟨S1,S2⟩:=S
    by_cases e4:E < S1
    ·have HQ:=hide (show pfx l p = (S1,S2,2) from by rw [unhide HP];simp [e4])
     have e4i:(E:Int) < (S1:Int):=by omega
     clear HP HR2
     go_wp2
     go_ret3
     exact ⟨by rw [unhide HQ];rfl,b6⟩
    ·have HQ:=hide (show pfx l p = (S1,S2,1) from by rw [unhide HP];simp [e4])
     have e4i:¬ (E:Int) < (S1:Int):=by omega
     clear HP HR2
     go_wp2
     go_ret3
     exact ⟨by rw [unhide HQ];rfl,b6⟩
   ·have e3i:((R1:Int) == (R2:Int)) = false:=by simp;omega
    have HR2:=hide (show pfxR l E = (R1,R2) from by rw [unhide HR];exact if_neg e3)
    clear HR e3
    rw [unhide HR2] at HP
    by_cases e4:E < R1
    ·have HQ:=hide (show pfx l p = (R1,R2,2) from by rw [unhide HP];simp [e4])
     have e4i:(E:Int) < (R1:Int):=by omega
     clear HP HR2
     go_wp2
     go_ret3
     exact ⟨by rw [unhide HQ];rfl,b4⟩
    ·have HQ:=hide (show pfx l p = (R1,R2,1) from by rw [unhide HP];simp [e4])
     have e4i:¬ (E:Int) < (R1:Int):=by omega
     clear HP HR2
     go_wp2
     go_ret3
     exact ⟨by rw [unhide HQ];rfl,b4⟩
end Go.Proofs.YtjlaoeigfokkiaaGreatDoor.mem
namespace Go.Proofs.YtjlaoeigfokkiaaGreatDoor.fto
open Go.ChangeShapes Go.WideShapes Go.ChangeAt Go.RowKit
open mem Go.Sort
open ints (hide unhide)
set_option linter.unusedVariables false
def bytZ (s:ByteArray):List Int:=s.data.toList.map fun b => (b.toNat:Int)
theorem bytZ_len (s:ByteArray):(bytZ s).length = s.size:=by unfold bytZ;rw [List.length_map,Array.length_toList];rfl
theorem bytZ_str (zs:List Int) (h:Bt zs):bytZ (strOfNums zs) = zs:=by
 show List.map _ (zs.map fun n => UInt8.ofNat n.toNat).toArray.toList = zs
 rw [List.toList_toArray,List.map_map]
 conv => rhs;rw [← List.map_id zs]
 apply List.map_congr_left
 intro z hz
 have:=h z hz
 simp
 omega
theorem thr_cells {w:World} {b:Nat} {arr:Array Value} {t:TypeId} (h:w.heap[b]? = some (.cells arr t (0,0))) {o n:Nat} (hn:o + n ≤ arr.size):w.there b o n:=fun j hj => by
 refine ⟨?_,?_⟩
 ·simp [World.cell?,h];omega
 ·simp [World.frozen?,h]
theorem bel_setCells {B:Nat} {w:World} (b:Nat):∀ (vs:List Value) (o:Nat) (w1:World),Below B w w1 → B ≤ b → Below B w (w1.setCells b o vs)
 | [],o,w1,h,hb => h
 | v :: r,o,w1,h,hb => bel_setCells b r (o + 1) _ (h.setCell (p:=⟨b,o,none⟩) hb v) hb
theorem one_c {cs:List Value} (h:cs.all (·.oneCell') = true):cs.toArray.all (·.oneCell') = true:=by simpa using h
theorem infoNum:(Tryz.prog.info? 27).map (·.size) = some 3:=by kernel_rfl
theorem conv_bytes (s:ByteArray) (w:World):∃ cap W2,(convert 9 45 (.string s)).run Tryz.prog w = .ok (.slice (some ⟨w.heap.size,0,none⟩) s.size cap) W2 ∧
  Row .u8 W2 (some ⟨w.heap.size,0,none⟩) s.size cap (bytZ s) ∧ Below w.heap.size w W2:=by
 have h:=run_bytes_of_string (P:=Tryz.prog) w 9 45 5 s Tryz.underlying9 Tryz.underlying45 Tryz.underlying5
 refine ⟨_,_,h,⟨bytZ_len s,grownCap_ge _ _ _ _,(fun e => by cases e),.inr ⟨w.heap.size,0,rfl,by simp,fun i hi => ?_⟩⟩,(Below.refl _ _).drew.alloc (Nat.le_refl _) _⟩
 have e:(w.drew.alloc (.cells (bytesRow s (grownCap w s.size 0 5)) 5 ((bytesRow s (grownCap w s.size 0 5)).size,(bytesRow s (grownCap w s.size 0 5)).size + 1))).cell? ⟨w.drew.heap.size,0 + i,none⟩ = (bytesRow s (grownCap w s.size 0 5))[0 + i]? := World.cell?_alloc_mark _ _ _ _ _
 refine e.trans ?_
 have hi':i < s.data.size:=hi
 unfold bytesRow bytZ
 rw [Nat.zero_add,Array.getElem?_append_left (by simpa using hi')]
 have e2:(s.data.toList.map fun b => (b.toNat:Int)).getD i 0 = ((s.data[i]'hi').toNat:Int):=by simp [List.getD,Array.getElem?_eq_getElem hi']
 rw [e2,Array.getElem?_map,Array.getElem?_eq_getElem hi']
 rfl
set_option maxHeartbeats 1100000 in
set_option maxRecDepth 100000 in
theorem read_in (s:ByteArray) (R:Nat) (w:World) (hF:Fy w) (hs:s.size ≤ 1100000) (hR:R < 18446744073709551616) (hb:badF R = false) (hp:pfx (bytZ s) 0 = (s.size,s.size,2))
  (NE:∀ W,Fy W → Calls Tryz.prog 20 #[.string s] W fun e w' => e = .returned (.float .f64 R) ∧ Below W.heap.size W w') :
  Calls Tryz.prog 8 #[.string s] w fun e w' => e = .returned (.tuple #[.agg #[.int .i64 3,.int .i64 0,.float .f64 R],.int .i64 0]) ∧ Below w.heap.size w w':=by
 have CB:=hide (conv_bytes s)
 have PR:=hide (fun a n c W (h:Row .u8 W a n c (bytZ s)) (hn:n ≤ 4611686018427387900) => prefix_in_b a n c (bytZ s) 0 W h hn (Nat.zero_le _))
 rw [hp] at PR
 have HN:=hide NE
 have HF:=hide hF
 have HI:=hide (fun W => isInf_ok R W hR (nan_bad hb))
 rw [hb] at HI
 obtain ⟨cap,W2,hcv,hrow,b2⟩:=conv_bytes s (w.alloc (.cells #[.int .i64 0,.int .i64 0,.float .f64 0] 27))
 have hz:(w.alloc (.cells #[.int .i64 0,.int .i64 0,.float .f64 0] 27)).heap.size = w.heap.size + 1:=by simp
 rw [hz] at hcv hrow b2
 have hb0:(w.alloc (.cells #[.int .i64 0,.int .i64 0,.float .f64 0] 27)).heap[w.heap.size]? = some (.cells #[.int .i64 0,.int .i64 0,.float .f64 0] 27 (0,0)):=heap_alloc_new w _
 have hb2:W2.heap[w.heap.size]? = some (.cells #[.int .i64 0,.int .i64 0,.float .f64 0] 27 (0,0)):=(b2.block w.heap.size (by omega)).trans hb0
 have bw2:Below w.heap.size w W2:=((Below.refl _ _).alloc (Nat.le_refl _) _).trans (b2.mono (by omega))
 have hz2:w.heap.size + 1 ≤ W2.heap.size:=by have:=b2.size;rw [hz] at this;exact this
 have P1:=hide (unhide PR _ _ _ W2 hrow (by omega))
 have HX:=hide (And.intro hb2 (And.intro bw2 hz2))
 have e0:((s.size:Int) != (s.size:Int)) = false:=by simp
 clear NE hF hb hR hp CB PR b2 hb0 hb2 bw2 hz2 hrow
 go_enter Tryz.func8,Tryz.ntmps8
 go_wp2_with fail
 refine (unhide P1).mono ?_
 rintro e w1 ⟨rfl,b1⟩
 obtain ⟨x1,x2,x3⟩:=unhide HX
 have bw1:=x2.trans (b1.mono x2.size)
 have hb1:w1.heap[w.heap.size]? = some (.cells #[.int .i64 0,.int .i64 0,.float .f64 0] 27 (0,0)):=(b1.block w.heap.size (by omega)).trans x1
 have hz1:w.heap.size < w1.heap.size:=by have:=b1.size;omega
 have N1:=hide (unhide HN w1 ((unhide HF).below bw1))
 have HY:=hide (And.intro hb1 (And.intro bw1 hz1))
 clear b1 x1 x2 x3 bw1 hb1 hz1 HX P1 HN hcv
 go_wp2_with fail
 refine (unhide N1).mono ?_
 rintro e w2 ⟨rfl,b2⟩
 obtain ⟨x1,x2,x3⟩:=unhide HY
 have bw2:=x2.trans (b2.mono x2.size)
 have hb2:w2.heap[w.heap.size]? = some (.cells #[.int .i64 0,.int .i64 0,.float .f64 0] 27 (0,0)):=(b2.block w.heap.size x3).trans x1
 have hth:=hide (thr_cells hb2 (o:=0) (n:=3) (by decide))
 have HB:=hide bw2
 clear b2 x1 x2 x3 bw2 hb2 HY N1
 go_wp2_with fail
 refine (unhide HI _).mono ?_
 rintro e w3 ⟨rfl,hw⟩
 subst w3
 clear HI
 go_wp2_with (first
  | refine wpList_store_mid (by rfl) 27 _ _ (by rfl) w.heap.size 0 #[.int .i64 3,.int .i64 0,.float .f64 R] (by rfl) (by rfl) (unhide hth) infoNum (one_c (cs:=[.int .i64 3,.int .i64 0,.float .f64 R]) (by rfl)) ?_)
 refine bodyPost_ret (rgn.result_row_tmp rfl _ _ w.heap.size 0 [.int .i64 3,.int .i64 0,.float .f64 R] _ rfl (World.rangeAt_setCells_same _ _ _ _ (unhide hth)) Tryz.underlying27 rfl infoNum) rfl ?_
 exact ⟨rfl,bel_setCells _ _ _ _ (unhide HB) (Nat.le_refl _)⟩
end Go.Proofs.YtjlaoeigfokkiaaGreatDoor.fto
