import Derived.Test.YtjlaoeigfokkiaaGreatDoorBs26
import Derived.Test.YtjlaoeigfokkiaaGreatDoorBs24
import Derived.Test.YtjlaoeigfokkiaaGreatDoorBs25
import Derived.Test.YtjlaoeigfokkiaaGreatDoorBs21
namespace Go.Proofs.YtjlaoeigfokkiaaGreatDoor.dcm
open Go.ChangeShapes Go.WideShapes Go.ChangeAt Go.RowKit
open mem fto
open ints (hide unhide)
set_option linter.unusedVariables false
set_option linter.unusedSimpArgs false
/-- strconv's ErrRange lies in its variable -/
structure ErV (w : World) : Prop where
  ev : ∃ ev, w.cell? ⟨2, 0, none⟩ = some ev ∧ (ev = .nilIface ∨ ∃ te pe, ev = .iface te pe)
  g : 2 < w.heap.size
theorem ErV.below {w W : World} (h : ErV w) (hb : Below w.heap.size w W) : ErV W := by
  obtain ⟨ev, h1, h2⟩ := h.ev
  exact ⟨⟨ev, (hb.cell (p := ⟨2, 0, none⟩) h.g).trans h1, h2⟩, Nat.lt_of_lt_of_le h.g hb.size⟩
set_option maxRecDepth 100000 in
/-- strconv.ParseFloat where atof64 answers an error beside the infinity -/
theorem pf_err (s : ByteArray) (F : Nat) (w : World) (hs : s.size ≤ 2000000) (hE : ErV w)
    (AT : Calls Tryz.prog 126 #[.string s] w fun e w' => e = .returned (.tuple #[.float .f64 F, .int .i64 s.size, errR]) ∧ Below w.heap.size w w') :
    Calls Tryz.prog 43 #[.string s, .int .i64 64] w fun e w' => (∃ er, e = .returned (.tuple #[.float .f64 F, er])) ∧ Below w.heap.size w w' := by
  unfold errR at AT
  have P1 : Calls Tryz.prog 99 #[.string s, .int .i64 64] w fun e w' => e = .returned (.tuple #[.float .f64 F, .int .i64 s.size, .iface 96 (.int .i64 1)]) ∧ Below w.heap.size w w' := by
    have HA := hide AT
    clear AT
    go_enter Tryz.func99, Tryz.ntmps99
    go_wp2_with fail
    refine (unhide HA).mono ?_
    rintro e w1 ⟨rfl, b1⟩
    have HB := hide b1
    clear b1
    go_wp2
    go_ret3
    exact ⟨rfl, unhide HB⟩
  have P2 : Calls Tryz.prog 69 #[.string s, .int .i64 64] w fun e w' => e = .returned (.tuple #[.float .f64 F, .iface 96 (.int .i64 1)]) ∧ Below w.heap.size w w' := by
    have HA := hide P1
    clear P1 AT
    go_enter Tryz.func69, Tryz.ntmps69
    go_wp2_with fail
    refine (unhide HA).mono ?_
    rintro e w1 ⟨rfl, b1⟩
    have HB := hide b1
    clear b1
    go_wp2
    go_ret2
    exact ⟨rfl, unhide HB⟩
  have HA := hide P2
  have HE := hide hE
  clear P1 P2 AT hE
  go_enter Tryz.func43, Tryz.ntmps43
  go_wp2_with fail
  refine (unhide HA).mono ?_
  rintro e w1 ⟨rfl, b1⟩
  have HB := hide b1
  obtain ⟨ev, h1, h2⟩ := ((unhide HE).below b1).ev
  have TE := hide (fun fn => Tryz.strconv_toError_range fn s 0 64 ev w1 (by omega) h1 h2)
  clear b1 h1 h2
  go_wp2_with fail
  refine (unhide TE _).mono ?_
  rintro e w2 ⟨N, rfl, -, -, b2⟩
  have HB2 := hide ((unhide HB).trans (b2.mono (unhide HB).size))
  clear b2
  go_wp2
  go_ret2
  exact ⟨⟨_, rfl⟩, unhide HB2⟩
/-- strconv.ParseFloat at every text with digits that number.nearest hands on -/
theorem pf_all (k : Nat) (s : ByteArray) (m g z : Nat) (e : Int) (h : Ntx s k m g z) (hk : k ≤ 1) (hm : 1 ≤ m)
    (he : e = if g = 1 then - (mvs s (k + 3 + m + g) z : Int) else (mvs s (k + 3 + m + g) z : Int)) (w : World) (hF : Fy w) (hSl : Slow w w.heap.size) (hE : ErV w) :
    ∃ lo, Lo (mvs s (k + 2) m * 10 ^ (e - m).toNat * k74) (10 ^ (-(e - m)).toNat) lo ∧
      Calls Tryz.prog 43 #[.string s, .int .i64 64] w fun ed w' => (∃ er, ed = .returned (.tuple #[.float .f64 (k * 9223372036854775808 + cpR (roundR (mvs s (k + 2) m * 10 ^ (e - m).toNat * k74) (10 ^ (-(e - m)).toNat) lo)), er])) ∧ Below w.heap.size w w' := by
  have hsz1 : s.size ≤ 2000000 := by have := h.sz; have := h.m1; have := h.z1; have := h.g1; omega
  obtain ⟨lo, hlo, C⟩ := atof_all k s m g z e h hk hm he w hF hSl
  refine ⟨lo, hlo, ?_⟩
  generalize roundR (mvs s (k + 2) m * 10 ^ (e - m).toNat * k74) (10 ^ (-(e - m)).toNat) lo = R at *
  unfold erR at C
  by_cases hR : R < infR
  · rw [if_pos hR] at C
    refine (pf_in s _ w hsz1 C).mono ?_
    rintro ed w' ⟨h1, h2⟩
    exact ⟨⟨_, h1⟩, h2⟩
  · rw [if_neg hR] at C
    exact pf_err s _ w hsz1 hE C
end Go.Proofs.YtjlaoeigfokkiaaGreatDoor.dcm
namespace Go.Proofs.YtjlaoeigfokkiaaGreatDoor.dcm
open Go.ChangeShapes Go.WideShapes Go.ChangeAt Go.RowKit
open fto
/-- all that reading at every text asks of the world -/
structure Fz (w : World) : Prop where
  fy : Fy w
  sl : Slow w w.heap.size
  ev : ErV w
theorem Fz.below {w W : World} (h : Fz w) (hb : Below w.heap.size w W) : Fz W := ⟨h.fy.below hb, h.sl.at hb hb.size hb.size (Nat.le_refl _), h.ev.below hb⟩
end Go.Proofs.YtjlaoeigfokkiaaGreatDoor.dcm
namespace Go.Proofs.YtjlaoeigfokkiaaGreatDoor.fto
open Go.ChangeShapes Go.WideShapes Go.ChangeAt Go.RowKit
open mem Go.Sort
open ints (hide unhide)
set_option linter.unusedVariables false
set_option maxHeartbeats 1100000 in
set_option maxRecDepth 100000 in
/-- number.nearest, by what its parts answer -/
theorem nearest_in2 (ng bb : Bool) (s r ms wh fr wf dg T I : ByteArray) (x pw : Int) (R : Nat) (w : World) (hF : dcm.Fz w)
    (z1 : s.size ≤ 2000000) (z2 : ms.size ≤ 2000000) (z3 : dg.size ≤ 1100000) (z4 : fr.size ≤ 1100000) (z5 : wh.size ≤ 1100000) (zr : r.size ≤ 2000000) (zI : I.size ≤ 30) (zk : ng = true → 1 ≤ s.size) (hx : -2000000000000 ≤ x ∧ x ≤ 2000000000000)
    (HP : Lib.hasPrefix s.data.toList (⟨#[45]⟩ : ByteArray).data.toList = ng)
    (hr : s.extract ng.toNat s.size = r)
    (CE : ∀ W, Calls Tryz.prog 40 #[.string r] W fun e w' => e = .returned (.tuple #[.string ms, .int .i64 x]) ∧ Below W.heap.size W w')
    (hc1 : (⟨(Lib.cut ms.data.toList (⟨#[46]⟩ : ByteArray).data.toList).1.toArray⟩ : ByteArray) = wh) (hc2 : (⟨(Lib.cut ms.data.toList (⟨#[46]⟩ : ByteArray).data.toList).2.1.toArray⟩ : ByteArray) = fr) (hc3 : (Lib.cut ms.data.toList (⟨#[46]⟩ : ByteArray).data.toList).2.2 = bb)
    (hwf : wh ++ fr = wf) (htr : (⟨(Lib.trimLeftB wf.data.toList 48).toArray⟩ : ByteArray) = dg)
    (hpw : max (-400) (min (x + dg.size - fr.size) 400) = pw) (hI : itB pw = I)
    (hT : (if ng then ⟨#[45]⟩ else ⟨#[]⟩) ++ ⟨#[48, 46]⟩ ++ dg ++ ⟨#[101]⟩ ++ I = T)
    (PF : ∀ W, dcm.Fz W → Calls Tryz.prog 43 #[.string T, .int .i64 64] W fun e w' => (∃ er, e = .returned (.tuple #[.float .f64 R, er])) ∧ Below W.heap.size W w') :
    Calls Tryz.prog 20 #[.string s] w fun e w' => e = .returned (.float .f64 R) ∧ Below w.heap.size w w' := by
  have H1 := Tryz.strings_HasPrefix s ⟨#[45]⟩ w
  rw [HP] at H1
  replace H1 := hide H1
  have HC := hide CE
  have HCU := fun (W : World) (hW : dcm.Fz W) => Tryz.strings_Cut ms ⟨#[46]⟩ (Classical.choose hW.fy.fx.most) W (by omega) (Classical.choose_spec hW.fy.fx.most)
  simp only [hc1, hc2, hc3] at HCU
  replace HCU := hide HCU
  have HTR := fun W => Tryz.strings_TrimLeft_one wf 48 (by decide) W
  simp only [htr] at HTR
  replace HTR := hide HTR
  have HPF := hide PF
  have HFy := hide hF
  have pb : -400 ≤ pw ∧ pw ≤ 400 := by omega
  have HWT := fun (W : World) (hW : dcm.Fz W) => whole_ok pw (by omega) (by omega) W hW.fy.fx
  rw [hI] at HWT
  replace HWT := hide HWT
  have hpa : max (-400) (min (x + (dg.size : Int) - (fr.size : Int)) 400) = pw := hpw
  clear PF CE hF hI HP htr hc1 hc2 hc3 hpw
  cases ng
  · have hr0 : s.extract 0 s.size = r := hr
    have hT0 : (⟨#[]⟩ : ByteArray) ++ ⟨#[48, 46]⟩ ++ dg ++ ⟨#[101]⟩ ++ I = T := hT
    clear hr hT zk
    go_enter Tryz.func20, Tryz.ntmps20
    go_wp2_with fail
    refine (unhide H1).mono ?_
    rintro e w1 ⟨rfl, hw⟩
    subst w1
    go_wp2_with fail
    refine (unhide HC _).mono ?_
    rintro e w1 ⟨rfl, b1⟩
    have F1 := hide ((unhide HFy).below b1)
    have B1 := hide b1
    clear b1 H1 HC
    go_wp2_with fail
    refine (unhide HCU _ (unhide F1)).mono ?_
    rintro e w2 ⟨rfl, n, rfl⟩
    have F2 := hide ((unhide F1).below (below_dn w1 n))
    have B2 := hide ((unhide B1).trans ((below_dn w1 n).mono (unhide B1).size))
    clear HCU F1 B1
    generalize w1.drewN n = w2 at *
    go_wp2_with fail
    refine (unhide HTR _).mono ?_
    rintro e w3 ⟨rfl, hw⟩
    subst w3
    clear HTR
    go_wp2_with fail
    refine (unhide HWT _ (unhide F2)).mono ?_
    rintro e w3 ⟨rfl, b3⟩
    have F3 := hide ((unhide F2).below b3)
    have B3 := hide ((unhide B2).trans (b3.mono (unhide B2).size))
    clear b3 HWT F2 B2
    go_wp2_with fail
    refine (unhide HPF _ (unhide F3)).mono ?_
    rintro e w4 ⟨⟨er, rfl⟩, b4⟩
    have B4 := hide ((unhide B3).trans (b4.mono (unhide B3).size))
    clear b4 B3 F3 HPF
    go_wp2
    go_ret
    exact ⟨rfl, unhide B4⟩
  · have hr0 : s.extract 1 s.size = r := hr
    have hT0 : (⟨#[45]⟩ : ByteArray) ++ ⟨#[48, 46]⟩ ++ dg ++ ⟨#[101]⟩ ++ I = T := hT
    have zk1 := zk rfl
    have zk2 : (1 : Int) ≤ s.size := by omega
    clear hr hT zk
    go_enter Tryz.func20, Tryz.ntmps20
    go_wp2_with fail
    refine (unhide H1).mono ?_
    rintro e w1 ⟨rfl, hw⟩
    subst w1
    go_wp2_with fail
    refine (unhide HC _).mono ?_
    rintro e w1 ⟨rfl, b1⟩
    have F1 := hide ((unhide HFy).below b1)
    have B1 := hide b1
    clear b1 H1 HC
    go_wp2_with fail
    refine (unhide HCU _ (unhide F1)).mono ?_
    rintro e w2 ⟨rfl, n, rfl⟩
    have F2 := hide ((unhide F1).below (below_dn w1 n))
    have B2 := hide ((unhide B1).trans ((below_dn w1 n).mono (unhide B1).size))
    clear HCU F1 B1
    generalize w1.drewN n = w2 at *
    go_wp2_with fail
    refine (unhide HTR _).mono ?_
    rintro e w3 ⟨rfl, hw⟩
    subst w3
    clear HTR
    go_wp2_with fail
    refine (unhide HWT _ (unhide F2)).mono ?_
    rintro e w3 ⟨rfl, b3⟩
    have F3 := hide ((unhide F2).below b3)
    have B3 := hide ((unhide B2).trans (b3.mono (unhide B2).size))
    clear b3 HWT F2 B2
    go_wp2_with fail
    refine (unhide HPF _ (unhide F3)).mono ?_
    rintro e w4 ⟨⟨er, rfl⟩, b4⟩
    have B4 := hide ((unhide B3).trans (b4.mono (unhide B3).size))
    clear b4 B3 F3 HPF
    go_wp2
    go_ret
    exact ⟨rfl, unhide B4⟩
end Go.Proofs.YtjlaoeigfokkiaaGreatDoor.fto
namespace Go.Proofs.YtjlaoeigfokkiaaGreatDoor.fto
open Go.ChangeShapes Go.WideShapes Go.ChangeAt Go.RowKit
open mem Go.Sort
open ints (hide unhide)
set_option linter.unusedVariables false
/-- ParseFloat at every text with digits that is handed on: the float nearest to all its digits -/
theorem pf_textA (ng : Bool) (D : List Int) (x : Int) (hD : Dg D) (hne : D ≠ []) (h0 : ∀ r, D ≠ 48 :: r) (hl : D.length ≤ 1100000) (hx : x.natAbs < 10000) :
    ∃ lo, Lo (dv D * 10 ^ (x - D.length).toNat * k74) (10 ^ (-(x - D.length)).toNat) lo ∧ ∀ W, dcm.Fz W →
      Calls Tryz.prog 43 #[.string (strOfNums (ntZ ng D x)), .int .i64 64] W fun e w' => (∃ er, e = .returned (.tuple #[.float .f64 (ng.toNat * 9223372036854775808 + dcm.cpR (roundR (dv D * 10 ^ (x - D.length).toNat * k74) (10 ^ (-(x - D.length)).toNat) lo)), er])) ∧ Below W.heap.size W w' := by
  have N := ntx_of ng D x hD (by omega) h0 hx
  have hlp : 0 < D.length := List.length_pos_iff.2 hne
  have hv : mvs (strOfNums (ntZ ng D x)) (ng.toNat + 2) D.length = dv D := by
    rw [ntx_mant ng D x hD _ (Nat.le_refl _), List.take_length]
  have he : x = (if (decide (x < 0)).toNat = 1 then - (mvs (strOfNums (ntZ ng D x)) (ng.toNat + 3 + D.length + (decide (x < 0)).toNat) (dz x.natAbs).length : Int) else (mvs (strOfNums (ntZ ng D x)) (ng.toNat + 3 + D.length + (decide (x < 0)).toNat) (dz x.natAbs).length : Int)) := by
    rw [ntx_exp ng D x hD]
    by_cases h : x < 0
    · rw [decide_eq_true h]; simp; omega
    · rw [decide_eq_false h]; simp; omega
  obtain ⟨lo, hlo⟩ := dcm.lo_some (dv D * 10 ^ (x - D.length).toNat * k74) (B := 10 ^ (-(x - D.length)).toNat) (Nat.pow_pos (by decide))
  refine ⟨lo, hlo, fun W hW => ?_⟩
  obtain ⟨lo2, hlo2, C⟩ := dcm.pf_all ng.toNat _ D.length _ _ x N (Bool.toNat_le _) hlp he W hW.fy hW.sl hW.ev
  rw [hv] at hlo2 C
  obtain rfl := hlo.unique hlo2
  exact C
end Go.Proofs.YtjlaoeigfokkiaaGreatDoor.fto
namespace Go.Proofs.YtjlaoeigfokkiaaGreatDoor.fto
open Go.ChangeShapes Go.WideShapes Go.ChangeAt Go.RowKit
open mem Go.Sort
open ints (hide unhide)
set_option linter.unusedVariables false
set_option linter.unusedSimpArgs false
/-- an exponent as it may stand: its mark, its sign, its digits -/
def exA : Option (Int × Option Bool × List Int) → List Int
  | none => []
  | some (ec, o, X) => ec :: (sg3 o ++ X)
/-- and what cutExponent makes of it -/
def exW : Option (Int × Option Bool × List Int) → Int
  | none => 0
  | some (_, o, X) => if o = some true then -((min (dv X) 1099511627776 : Nat) : Int) else ((min (dv X) 1099511627776 : Nat) : Int)
def exP : Option (Int × Option Bool × List Int) → Prop
  | none => True
  | some (ec, _, X) => (ec = 101 ∨ ec = 69) ∧ Dg X ∧ X ≠ [] ∧ X.length ≤ 1100000
/-- the power that is handed on -/
def pwrA (A F : List Int) (E : Option (Int × Option Bool × List Int)) : Int := max (-400) (min (exW E + (trm (A ++ F)).length - F.length) 400)
/-- number.nearest at every number's text, given what ParseFloat answers -/
theorem nearest_textA (ng : Bool) (A F : List Int) (E : Option (Int × Option Bool × List Int)) (R : Nat) (w : World) (hW : dcm.Fz w) (hA : Dg A) (hA0 : A ≠ []) (hF : Dg F) (hE : exP E) (lT : A.length + F.length + (exA E).length ≤ 1060000)
    (PF : ∀ W, dcm.Fz W → Calls Tryz.prog 43 #[.string (strOfNums (ntZ ng (trm (A ++ F)) (pwrA A F E))), .int .i64 64] W fun e w' => (∃ er, e = .returned (.tuple #[.float .f64 R, er])) ∧ Below W.heap.size W w') :
    Calls Tryz.prog 20 #[.string (strOfNums (sgL ng ++ (A ++ (frL F ++ exA E))))] w fun e w' => e = .returned (.float .f64 R) ∧ Below w.heap.size w w' := by
  obtain ⟨n1, n2⟩ := dg_noE hA hF
  have hD := hA.app hF
  have lT := trm_len (A ++ F)
  rw [List.length_append] at lT
  have lfr : (frL F).length ≤ F.length + 1 := by unfold frL; split <;> simp
  have lsg : (sgL ng).length = ng.toNat := by cases ng <;> rfl
  have lA : A.length ≤ 1060000 := by omega
  have lF : F.length ≤ 1060000 := by omega
  have lex : (exA E).length ≤ 1060000 := by omega
  have hxv : -2000000000000 ≤ exW E ∧ exW E ≤ 2000000000000 := by
    rcases E with _ | ⟨ec, o, X⟩
    · simp [exW]
    · unfold exW
      split <;> omega
  have hcut : Lib.cut (u8s (A ++ frL F)) [46] = (u8s A, u8s F, decide (F ≠ [])) := by
    have hn : (46 : UInt8) ∉ u8s A := dig_not hA (by decide)
    by_cases h0 : F = []
    · subst h0
      rw [show A ++ frL [] = A by simp [frL], cut_no 46 _ hn]
      rfl
    · rw [show A ++ frL F = A ++ 46 :: F by simp [frL, h0], u8s_app]
      show Lib.cut (u8s A ++ 46 :: u8s F) [46] = _
      rw [cut_at 46 _ _ hn]
      simp [h0]
  refine nearest_in2 ng (decide (F ≠ [])) _ (strOfNums (A ++ (frL F ++ exA E))) (strOfNums (A ++ frL F)) (strOfNums A) (strOfNums F) (strOfNums (A ++ F)) (strOfNums (trm (A ++ F))) (strOfNums (ntZ ng (trm (A ++ F)) (pwrA A F E))) (itB (pwrA A F E)) (exW E) (pwrA A F E) R w hW ?_ ?_ ?_ ?_ ?_ ?_ ?_ ?_ hxv ?_ ?_ ?_ ?_ ?_ ?_ ?_ ?_ ?_ rfl ?_ PF
  · rw [str_size]; simp only [List.length_append]; have := Bool.toNat_le ng; omega
  · rw [str_size, List.length_append]; omega
  · rw [str_size]; omega
  · rw [str_size]; omega
  · rw [str_size]; omega
  · rw [str_size]; simp only [List.length_append]; omega
  · have := itB_size (pwrA A F E) (by unfold pwrA; omega) (by unfold pwrA; omega); omega
  · intro h; subst h; rw [str_size]; simp [sgL]
  · show Lib.hasPrefix (u8s (sgL ng ++ (A ++ (frL F ++ exA E)))) [45] = ng
    cases ng
    · obtain ⟨a, A', rfl⟩ : ∃ a A', A = a :: A' := by
        cases A with
        | nil => exact absurd rfl hA0
        | cons a A' => exact ⟨a, A', rfl⟩
      have ha := hA a (by simp)
      have e2 : (UInt8.ofNat a.toNat).toNat = a.toNat := UInt8.toNat_ofNat_of_lt' (by show _ < 256; omega)
      have : ¬ UInt8.ofNat a.toNat = 45 := fun e => by rw [e] at e2; have : (45 : UInt8).toNat = 45 := rfl; omega
      show ([45] : List UInt8).isPrefixOf (UInt8.ofNat a.toNat :: _) = false
      simp only [List.isPrefixOf]
      have h2 : ((45 : UInt8) == UInt8.ofNat a.toNat) = false := by rw [beq_eq_false_iff_ne]; exact fun e => this e.symm
      rw [h2]; rfl
    · show ([45] : List UInt8).isPrefixOf (45 :: _) = true
      simp [List.isPrefixOf]
  · exact ext_right (sgL ng) (A ++ (frL F ++ exA E)) lsg.symm (by rw [str_size])
  · intro W
    cases E with
    | none =>
      rw [show A ++ (frL F ++ exA none) = A ++ frL F by simp [exA]]
      exact cutE_no (A ++ frL F) W n1 n2 (by rw [List.length_append]; omega)
    | some q =>
      obtain ⟨ec, o, X⟩ := q
      rw [← List.append_assoc]
      exact cutE_any (A ++ frL F) X ec o W hE.1 n1 n2 (by rw [List.length_append]; omega) hE.2.1 hE.2.2.1 hE.2.2.2
  · show (⟨(Lib.cut (u8s (A ++ frL F)) [46]).1.toArray⟩ : ByteArray) = _
    rw [hcut]; rfl
  · show (⟨(Lib.cut (u8s (A ++ frL F)) [46]).2.1.toArray⟩ : ByteArray) = _
    rw [hcut]; rfl
  · show (Lib.cut (u8s (A ++ frL F)) [46]).2.2 = _
    rw [hcut]
  · exact str_app A F
  · show (⟨(Lib.trimLeftB (u8s (A ++ F)) 48).toArray⟩ : ByteArray) = _
    rw [trimB_trm _ hD]; rfl
  · rw [str_size, str_size]; rfl
  · rw [itB_itZ]
    have e1 : (if ng = true then (⟨#[45]⟩ : ByteArray) else ⟨#[]⟩) = strOfNums (sgL ng) := by cases ng <;> rfl
    have e2 : (⟨#[48, 46]⟩ : ByteArray) = strOfNums [48, 46] := rfl
    have e3 : (⟨#[101]⟩ : ByteArray) = strOfNums [101] := rfl
    rw [e1, e2, e3, str_app, str_app, str_app, str_app]
    congr 1
    simp [ntZ]
end Go.Proofs.YtjlaoeigfokkiaaGreatDoor.fto
namespace Go.Proofs.YtjlaoeigfokkiaaGreatDoor.fto
open Go.ChangeShapes Go.WideShapes Go.ChangeAt Go.RowKit
open mem Go.Sort
open ints (hide unhide)
set_option linter.unusedVariables false
set_option linter.unusedSimpArgs false
/-- an exponent's own value -/
def exX : Option (Int × Option Bool × List Int) → Int
  | none => 0
  | some (_, o, X) => if o = some true then -(dv X : Int) else (dv X : Int)
theorem dv_ge {D : List Int} (hD : Dg D) (hne : D ≠ []) (h0 : ∀ r, D ≠ 48 :: r) : 10 ^ (D.length - 1) ≤ dv D := by
  cases D with
  | nil => exact absurd rfl hne
  | cons c r =>
    have hc := hD c (by simp)
    have h48 : c ≠ 48 := fun e => h0 r (by rw [e])
    rw [dv_cons, List.length_cons, Nat.add_sub_cancel]
    have : 1 * 10 ^ r.length ≤ (c - 48).toNat * 10 ^ r.length := Nat.mul_le_mul_right _ (by omega)
    omega
theorem val_high {N n lo : Nat} {q : Int} (hN : 10 ^ (n - 1) ≤ N) (hn : 1 ≤ n) (hq : 311 ≤ q + n) (hlo : Lo (N * 10 ^ q.toNat * k74) (10 ^ (-q).toNat) lo) : dcm.cpR (roundR (N * 10 ^ q.toNat * k74) (10 ^ (-q).toNat) lo) = infR := by
  have h := dcm.round_inf hlo (Nat.pow_pos (by decide)) (by
    refine Nat.le_trans (Nat.mul_le_mul_left _ dcm.inf_310) ?_
    rw [← Nat.mul_assoc]
    refine Nat.mul_le_mul_right _ ?_
    refine Nat.le_trans ?_ (Nat.mul_le_mul_right _ hN)
    rw [← Nat.pow_add, ← Nat.pow_add]
    exact Nat.pow_le_pow_right (by decide) (by have : dcm.n31 = 310 := rfl; omega))
  unfold dcm.cpR
  rw [if_neg (by omega)]
theorem low_aux (N T Z : Nat) (h : N ≤ T) : 2 * (N * Z) ≤ T * (2 * (18446744073709551616 * Z)) := by
  have h1 : N * Z ≤ T * Z := Nat.mul_le_mul_right _ h
  have h2 : T * (2 * (18446744073709551616 * Z)) = 2 * 18446744073709551616 * (T * Z) := by
    rw [Nat.mul_left_comm T, Nat.mul_left_comm T, ← Nat.mul_assoc]
  rw [h2]
  omega
theorem val_low {N n lo : Nat} {q : Int} (hN : N < 10 ^ n) (hq : q + n ≤ -345) (hlo : Lo (N * 10 ^ q.toNat * k74) (10 ^ (-q).toNat) lo) : dcm.cpR (roundR (N * 10 ^ q.toNat * k74) (10 ^ (-q).toNat) lo) = 0 := by
  have h := dcm.round_none hlo (Nat.pow_pos (by decide)) (by
    rw [show q.toNat = 0 by omega, Nat.pow_zero, Nat.mul_one]
    have h1 : 10 ^ n * 10 ^ dcm.n345 ≤ 10 ^ (-q).toNat := by
      rw [← Nat.pow_add]
      exact Nat.pow_le_pow_right (by decide) (by have : dcm.n345 = 345 := rfl; omega)
    refine Nat.lt_of_lt_of_le ?_ h1
    have h2 := dcm.low_345
    have h3 := low_aux N (10 ^ n) k74 (by omega)
    exact Nat.lt_of_le_of_lt h3 (Nat.mul_lt_mul_of_pos_left h2 (Nat.pow_pos (by decide))))
  rw [h]
  unfold dcm.cpR
  rw [if_pos (by decide)]
theorem ex_near {E : Option (Int × Option Bool × List Int)} : exW E = exX E ∨ (1099511627776 ≤ exX E ∧ exW E = 1099511627776) ∨ (exX E ≤ -1099511627776 ∧ exW E = -1099511627776) := by
  rcases E with _ | ⟨ec, o, X⟩
  · exact Or.inl rfl
  · have e1 : exW (some (ec, o, X)) = if o = some true then -((min (dv X) 1099511627776 : Nat) : Int) else ((min (dv X) 1099511627776 : Nat) : Int) := rfl
    have e2 : exX (some (ec, o, X)) = if o = some true then -(dv X : Int) else (dv X : Int) := rfl
    rw [e1, e2]
    by_cases h : o = some true
    · rw [if_pos h, if_pos h]; omega
    · rw [if_neg h, if_neg h]; omega
/-- number.nearest at every number's text: the float nearest to the number, with its sign; an infinity beyond the floats -/
theorem nearest_full (ng : Bool) (A F : List Int) (E : Option (Int × Option Bool × List Int)) (w : World) (hW : dcm.Fz w) (hA : Dg A) (hA0 : A ≠ []) (hF : Dg F) (hE : exP E) (lT : A.length + F.length + (exA E).length ≤ 1060000) :
    ∃ lo, Lo (dv (trm (A ++ F)) * 10 ^ (exX E - F.length).toNat * k74) (10 ^ (-(exX E - F.length)).toNat) lo ∧
      Calls Tryz.prog 20 #[.string (strOfNums (sgL ng ++ (A ++ (frL F ++ exA E))))] w fun e w' => e = .returned (.float .f64 (ng.toNat * 9223372036854775808 + dcm.cpR (roundR (dv (trm (A ++ F)) * 10 ^ (exX E - F.length).toNat * k74) (10 ^ (-(exX E - F.length)).toNat) lo))) ∧ Below w.heap.size w w' := by
  have hD := trm_dg (hA.app hF)
  have hln := trm_len (A ++ F)
  rw [List.length_append] at hln
  have hpb : (pwrA A F E).natAbs < 10000 := by unfold pwrA; omega
  obtain ⟨lo, hlo⟩ := dcm.lo_some (dv (trm (A ++ F)) * 10 ^ (exX E - F.length).toNat * k74) (B := 10 ^ (-(exX E - F.length)).toNat) (Nat.pow_pos (by decide))
  refine ⟨lo, hlo, ?_⟩
  refine nearest_textA ng A F E _ w hW hA hA0 hF hE lT ?_
  by_cases hne : trm (A ++ F) = []
  · intro W hW'
    have h0 : dcm.cpR (roundR (dv (trm (A ++ F)) * 10 ^ (exX E - F.length).toNat * k74) (10 ^ (-(exX E - F.length)).toNat) lo) = 0 := by
      have h1 := dcm.round_none hlo (Nat.pow_pos (by decide)) (by
        rw [hne, show dv [] = 0 from rfl, Nat.zero_mul, Nat.zero_mul]; exact Nat.pow_pos (by decide))
      rw [h1]
      unfold dcm.cpR
      rw [if_pos (by decide)]
    rw [h0, Nat.add_zero, hne]
    refine (pf_text0 ng _ hpb W hW'.fy).mono ?_
    rintro e w' ⟨h1, h2⟩
    exact ⟨⟨_, h1⟩, h2⟩
  · have hh : ∀ r, trm (A ++ F) ≠ 48 :: r := fun r e => trm_head _ _ _ e rfl
    obtain ⟨lo2, hlo2, C⟩ := pf_textA ng (trm (A ++ F)) (pwrA A F E) hD hne hh (by omega) hpb
    have hN1 := dv_ge hD hne hh
    have hN2 := dv_lt (trm (A ++ F)) hD
    have hn1 : 1 ≤ (trm (A ++ F)).length := List.length_pos_iff.2 hne
    intro W hW'
    have key : dcm.cpR (roundR (dv (trm (A ++ F)) * 10 ^ (pwrA A F E - (trm (A ++ F)).length).toNat * k74) (10 ^ (-(pwrA A F E - (trm (A ++ F)).length)).toNat) lo2) = dcm.cpR (roundR (dv (trm (A ++ F)) * 10 ^ (exX E - F.length).toNat * k74) (10 ^ (-(exX E - F.length)).toNat) lo) := by
      have hx := ex_near (E := E)
      obtain ⟨P, hP⟩ : ∃ P, P = pwrA A F E := ⟨_, rfl⟩
      have hP2 := hP
      unfold pwrA at hP2
      rw [← hP] at hlo2 ⊢
      by_cases hhi : 400 < exX E - F.length + (trm (A ++ F)).length
      · have hP4 : P = 400 := by omega
        rw [val_high hN1 hn1 (by omega) hlo2, val_high hN1 hn1 (by omega) hlo]
      · by_cases hl : exX E - F.length + (trm (A ++ F)).length < -400
        · have hP4 : P = -400 := by omega
          rw [val_low hN2 (by omega) hlo2, val_low hN2 (by omega) hlo]
        · have e1 : P - (trm (A ++ F)).length = exX E - F.length := by omega
          rw [e1] at hlo2 ⊢
          rw [hlo.unique hlo2]
    rw [← key]
    exact C W hW'
end Go.Proofs.YtjlaoeigfokkiaaGreatDoor.fto
namespace Go.Proofs.YtjlaoeigfokkiaaGreatDoor.fto
open Go.ChangeShapes Go.WideShapes Go.ChangeAt Go.RowKit
open mem Go.Sort
open ints (hide unhide)
set_option linter.unusedVariables false
set_option linter.unusedSimpArgs false
set_option maxHeartbeats 1100000 in
set_option maxRecDepth 100000 in
/-- number.Read at a text with a fraction or an exponent, wherever -/
theorem read_fin (s : ByteArray) (R : Nat) (w : World) (hF : dcm.Fz w) (hs : s.size ≤ 1100000) (hR : R < 18446744073709551616) (hb : badF R = false) (hp : pfx (bytZ s) 0 = (s.size, s.size, 2))
    (NE : ∀ W, dcm.Fz W → Calls Tryz.prog 20 #[.string s] W fun e w' => e = .returned (.float .f64 R) ∧ Below W.heap.size W w') :
    Calls Tryz.prog 8 #[.string s] w fun e w' => e = .returned (.tuple #[.agg #[.int .i64 3, .int .i64 0, .float .f64 R], .int .i64 0]) ∧ Below w.heap.size w w' := by
  have CB := hide (conv_bytes s)
  have PR := hide (fun a n c W (h : Row .u8 W a n c (bytZ s)) (hn : n ≤ 4611686018427387900) => prefix_in_b a n c (bytZ s) 0 W h hn (Nat.zero_le _))
  rw [hp] at PR
  have HN := hide NE
  have HF := hide hF
  have HI := hide (fun W => isInf_ok R W hR (nan_bad hb))
  rw [hb] at HI
  obtain ⟨cap, W2, hcv, hrow, b2⟩ := conv_bytes s (w.alloc (.cells #[.int .i64 0, .int .i64 0, .float .f64 0] 27))
  have hz : (w.alloc (.cells #[.int .i64 0, .int .i64 0, .float .f64 0] 27)).heap.size = w.heap.size + 1 := by simp
  rw [hz] at hcv hrow b2
  have hb0 : (w.alloc (.cells #[.int .i64 0, .int .i64 0, .float .f64 0] 27)).heap[w.heap.size]? = some (.cells #[.int .i64 0, .int .i64 0, .float .f64 0] 27 (0, 0)) := heap_alloc_new w _
  have hb2 : W2.heap[w.heap.size]? = some (.cells #[.int .i64 0, .int .i64 0, .float .f64 0] 27 (0, 0)) := (b2.block w.heap.size (by omega)).trans hb0
  have bw2 : Below w.heap.size w W2 := ((Below.refl _ _).alloc (Nat.le_refl _) _).trans (b2.mono (by omega))
  have hz2 : w.heap.size + 1 ≤ W2.heap.size := by have := b2.size; rw [hz] at this; exact this
  have P1 := hide (unhide PR _ _ _ W2 hrow (by omega))
  have HX := hide (And.intro hb2 (And.intro bw2 hz2))
  have e0 : ((s.size : Int) != (s.size : Int)) = false := by simp
  clear NE hF hb hR hp CB PR b2 hb0 hb2 bw2 hz2 hrow
  go_enter Tryz.func8, Tryz.ntmps8
  go_wp2_with fail
  refine (unhide P1).mono ?_
  rintro e w1 ⟨rfl, b1⟩
  obtain ⟨x1, x2, x3⟩ := unhide HX
  have bw1 := x2.trans (b1.mono x2.size)
  have hb1 : w1.heap[w.heap.size]? = some (.cells #[.int .i64 0, .int .i64 0, .float .f64 0] 27 (0, 0)) := (b1.block w.heap.size (by omega)).trans x1
  have hz1 : w.heap.size < w1.heap.size := by have := b1.size; omega
  have N1 := hide (unhide HN w1 ((unhide HF).below bw1))
  have HY := hide (And.intro hb1 (And.intro bw1 hz1))
  clear b1 x1 x2 x3 bw1 hb1 hz1 HX P1 HN hcv
  go_wp2_with fail
  refine (unhide N1).mono ?_
  rintro e w2 ⟨rfl, b2⟩
  obtain ⟨x1, x2, x3⟩ := unhide HY
  have bw2 := x2.trans (b2.mono x2.size)
  have hb2 : w2.heap[w.heap.size]? = some (.cells #[.int .i64 0, .int .i64 0, .float .f64 0] 27 (0, 0)) := (b2.block w.heap.size x3).trans x1
  have hth := hide (thr_cells hb2 (o := 0) (n := 3) (by decide))
  have HB := hide bw2
  clear b2 x1 x2 x3 bw2 hb2 HY N1
  go_wp2_with fail
  refine (unhide HI _).mono ?_
  rintro e w3 ⟨rfl, hw⟩
  subst w3
  clear HI
  go_wp2_with (first
    | refine wpList_store_mid (by rfl) 27 _ _ (by rfl) w.heap.size 0 #[.int .i64 3, .int .i64 0, .float .f64 R] (by rfl) (by rfl) (unhide hth) infoNum (one_c (cs := [.int .i64 3, .int .i64 0, .float .f64 R]) (by rfl)) ?_)
  refine bodyPost_ret (rgn.result_row_tmp rfl _ _ w.heap.size 0 [.int .i64 3, .int .i64 0, .float .f64 R] _ rfl (World.rangeAt_setCells_same _ _ _ _ (unhide hth)) Tryz.underlying27 rfl infoNum) rfl ?_
  exact ⟨rfl, bel_setCells _ _ _ _ (unhide HB) (Nat.le_refl _)⟩
set_option maxHeartbeats 1100000 in
set_option maxRecDepth 100000 in
/-- number.Read at a text whose float is an infinity -/
theorem read_inf (s : ByteArray) (R : Nat) (w : World) (hF : dcm.Fz w) (hs : s.size ≤ 1100000) (hR : R < 18446744073709551616) (hnn : nanB R = false) (hb : badF R = true) (hp : pfx (bytZ s) 0 = (s.size, s.size, 2))
    (NE : ∀ W, dcm.Fz W → Calls Tryz.prog 20 #[.string s] W fun e w' => e = .returned (.float .f64 R) ∧ Below W.heap.size W w') :
    Calls Tryz.prog 8 #[.string s] w fun e w' => e = .returned (.tuple #[.agg #[.int .i64 0, .int .i64 0, .float .f64 0], .int .i64 7]) ∧ Below w.heap.size w w' := by
  have CB := hide (conv_bytes s)
  have PR := hide (fun a n c W (h : Row .u8 W a n c (bytZ s)) (hn : n ≤ 4611686018427387900) => prefix_in_b a n c (bytZ s) 0 W h hn (Nat.zero_le _))
  rw [hp] at PR
  have HN := hide NE
  have HF := hide hF
  have HI := hide (fun W => isInf_ok R W hR hnn)
  rw [hb] at HI
  obtain ⟨cap, W2, hcv, hrow, b2⟩ := conv_bytes s (w.alloc (.cells #[.int .i64 0, .int .i64 0, .float .f64 0] 27))
  have hz : (w.alloc (.cells #[.int .i64 0, .int .i64 0, .float .f64 0] 27)).heap.size = w.heap.size + 1 := by simp
  rw [hz] at hcv hrow b2
  have hb0 : (w.alloc (.cells #[.int .i64 0, .int .i64 0, .float .f64 0] 27)).heap[w.heap.size]? = some (.cells #[.int .i64 0, .int .i64 0, .float .f64 0] 27 (0, 0)) := heap_alloc_new w _
  have hb2 : W2.heap[w.heap.size]? = some (.cells #[.int .i64 0, .int .i64 0, .float .f64 0] 27 (0, 0)) := (b2.block w.heap.size (by omega)).trans hb0
  have bw2 : Below w.heap.size w W2 := ((Below.refl _ _).alloc (Nat.le_refl _) _).trans (b2.mono (by omega))
  have hz2 : w.heap.size + 1 ≤ W2.heap.size := by have := b2.size; rw [hz] at this; exact this
  have P1 := hide (unhide PR _ _ _ W2 hrow (by omega))
  have HX := hide (And.intro hb2 (And.intro bw2 hz2))
  have e0 : ((s.size : Int) != (s.size : Int)) = false := by simp
  clear NE hF hb hnn hR hp CB PR b2 hb0 hb2 bw2 hz2 hrow
  go_enter Tryz.func8, Tryz.ntmps8
  go_wp2_with fail
  refine (unhide P1).mono ?_
  rintro e w1 ⟨rfl, b1⟩
  obtain ⟨x1, x2, x3⟩ := unhide HX
  have bw1 := x2.trans (b1.mono x2.size)
  have hb1 : w1.heap[w.heap.size]? = some (.cells #[.int .i64 0, .int .i64 0, .float .f64 0] 27 (0, 0)) := (b1.block w.heap.size (by omega)).trans x1
  have hz1 : w.heap.size < w1.heap.size := by have := b1.size; omega
  have N1 := hide (unhide HN w1 ((unhide HF).below bw1))
  have HY := hide (And.intro hb1 (And.intro bw1 hz1))
  clear b1 x1 x2 x3 bw1 hb1 hz1 HX P1 HN hcv
  go_wp2_with fail
  refine (unhide N1).mono ?_
  rintro e w2 ⟨rfl, b2⟩
  obtain ⟨x1, x2, x3⟩ := unhide HY
  have bw2 := x2.trans (b2.mono x2.size)
  have hb2 : w2.heap[w.heap.size]? = some (.cells #[.int .i64 0, .int .i64 0, .float .f64 0] 27 (0, 0)) := (b2.block w.heap.size x3).trans x1
  have hth := hide (thr_cells hb2 (o := 0) (n := 3) (by decide))
  have HB := hide bw2
  clear b2 x1 x2 x3 bw2 hb2 HY N1
  go_wp2_with fail
  refine (unhide HI _).mono ?_
  rintro e w3 ⟨rfl, hw⟩
  subst w3
  clear HI
  go_wp2_with (first
    | refine wpList_store_mid (by rfl) 27 _ _ (by rfl) w.heap.size 0 #[.int .i64 0, .int .i64 0, .float .f64 0] (by rfl) (by rfl) (unhide hth) infoNum (one_c (cs := [.int .i64 0, .int .i64 0, .float .f64 0]) (by rfl)) ?_)
  refine bodyPost_ret (rgn.result_row_tmp rfl _ _ w.heap.size 0 [.int .i64 0, .int .i64 0, .float .f64 0] _ rfl (World.rangeAt_setCells_same _ _ _ _ (unhide hth)) Tryz.underlying27 rfl infoNum) rfl ?_
  exact ⟨rfl, bel_setCells _ _ _ _ (unhide HB) (Nat.le_refl _)⟩
end Go.Proofs.YtjlaoeigfokkiaaGreatDoor.fto
namespace Go.Proofs.YtjlaoeigfokkiaaGreatDoor.fto
open Go.ChangeShapes Go.WideShapes Go.ChangeAt Go.RowKit
open mem Go.Sort
open ints (hide unhide)
set_option linter.unusedVariables false
set_option linter.unusedSimpArgs false
set_option maxHeartbeats 1100000 in
set_option maxRecDepth 100000 in
/-- number.Read at a text that is no number -/
theorem read_none (s : ByteArray) (en st : Nat) (fm : Int) (w : World) (hs : s.size ≤ 1100000) (hp : pfx (bytZ s) 0 = (en, st, fm)) (hen : en ≤ s.size) (hfm : 0 ≤ fm ∧ fm ≤ 2) (hno : fm = 0 ∨ en ≠ s.size) :
    Calls Tryz.prog 8 #[.string s] w fun e w' => e = .returned (.tuple #[.agg #[.int .i64 0, .int .i64 0, .float .f64 0], .int .i64 20]) ∧ Below w.heap.size w w' := by
  have CB := hide (conv_bytes s)
  have PR := hide (fun a n c W (h : Row .u8 W a n c (bytZ s)) (hn : n ≤ 4611686018427387900) => prefix_in_b a n c (bytZ s) 0 W h hn (Nat.zero_le _))
  rw [hp] at PR
  obtain ⟨cap, W2, hcv, hrow, b2⟩ := conv_bytes s (w.alloc (.cells #[.int .i64 0, .int .i64 0, .float .f64 0] 27))
  have hz : (w.alloc (.cells #[.int .i64 0, .int .i64 0, .float .f64 0] 27)).heap.size = w.heap.size + 1 := by simp
  rw [hz] at hcv hrow b2
  have hb0 : (w.alloc (.cells #[.int .i64 0, .int .i64 0, .float .f64 0] 27)).heap[w.heap.size]? = some (.cells #[.int .i64 0, .int .i64 0, .float .f64 0] 27 (0, 0)) := heap_alloc_new w _
  have hb2 : W2.heap[w.heap.size]? = some (.cells #[.int .i64 0, .int .i64 0, .float .f64 0] 27 (0, 0)) := (b2.block w.heap.size (by omega)).trans hb0
  have bw2 : Below w.heap.size w W2 := ((Below.refl _ _).alloc (Nat.le_refl _) _).trans (b2.mono (by omega))
  have hz2 : w.heap.size + 1 ≤ W2.heap.size := by have := b2.size; rw [hz] at this; exact this
  have P1 := hide (unhide PR _ _ _ W2 hrow (by omega))
  have HX := hide (And.intro hb2 (And.intro bw2 hz2))
  clear hp CB PR b2 hb0 hb2 bw2 hz2 hrow
  go_enter Tryz.func8, Tryz.ntmps8
  go_wp2_with fail
  refine (unhide P1).mono ?_
  rintro e w1 ⟨rfl, b1⟩
  obtain ⟨x1, x2, x3⟩ := unhide HX
  have bw1 := x2.trans (b1.mono x2.size)
  have hb1 : w1.heap[w.heap.size]? = some (.cells #[.int .i64 0, .int .i64 0, .float .f64 0] 27 (0, 0)) := (b1.block w.heap.size (by omega)).trans x1
  have hz1 : w.heap.size < w1.heap.size := by have := b1.size; omega
  have hth := hide (thr_cells hb1 (o := 0) (n := 3) (by decide))
  have HB := hide bw1
  clear b1 x1 x2 x3 bw1 hb1 hz1 HX P1 hcv
  by_cases h0 : fm = 0
  · subst h0
    go_wp2_with (first
      | refine wpList_store_mid (by rfl) 27 _ _ (by rfl) w.heap.size 0 #[.int .i64 0, .int .i64 0, .float .f64 0] (by rfl) (by rfl) (unhide hth) infoNum (one_c (cs := [.int .i64 0, .int .i64 0, .float .f64 0]) (by rfl)) ?_)
    refine bodyPost_ret (rgn.result_row_tmp rfl _ _ w.heap.size 0 [.int .i64 0, .int .i64 0, .float .f64 0] _ rfl (World.rangeAt_setCells_same _ _ _ _ (unhide hth)) Tryz.underlying27 rfl infoNum) rfl ?_
    exact ⟨rfl, bel_setCells _ _ _ _ (unhide HB) (Nat.le_refl _)⟩
  · have hne : en ≠ s.size := by exact hno.resolve_left h0
    have e0 : (fm == 0) = false := by rw [beq_eq_false_iff_ne]; exact h0
    have e1 : ((en : Int) != (s.size : Int)) = true := by simp; omega
    go_wp2_with (first
      | refine wpList_store_mid (by rfl) 27 _ _ (by rfl) w.heap.size 0 #[.int .i64 0, .int .i64 0, .float .f64 0] (by rfl) (by rfl) (unhide hth) infoNum (one_c (cs := [.int .i64 0, .int .i64 0, .float .f64 0]) (by rfl)) ?_)
    refine bodyPost_ret (rgn.result_row_tmp rfl _ _ w.heap.size 0 [.int .i64 0, .int .i64 0, .float .f64 0] _ rfl (World.rangeAt_setCells_same _ _ _ _ (unhide hth)) Tryz.underlying27 rfl infoNum) rfl ?_
    exact ⟨rfl, bel_setCells _ _ _ _ (unhide HB) (Nat.le_refl _)⟩
end Go.Proofs.YtjlaoeigfokkiaaGreatDoor.fto
namespace Go.Proofs.YtjlaoeigfokkiaaGreatDoor.fto
open Go.ChangeShapes Go.WideShapes Go.ChangeAt Go.RowKit
open mem Go.Sort
open ints (hide unhide)
set_option linter.unusedVariables false
set_option linter.unusedSimpArgs false
theorem pi_range (s : ByteArray) (hlim : s.size ≤ 281474976710656) (h : Lib.parseIntB 64 s.data.toList = .range) (ev : Value) (w : World) (hv : w.cell? ⟨2, 0, none⟩ = some ev) (hev : ev = .nilIface ∨ ∃ te pe, ev = .iface te pe) :
    Calls Tryz.prog 19 #[.string s, .int .i64 10, .int .i64 64] w fun e w' => (∃ N T, e = .returned (.tuple #[.int .i64 (Lib.intSat 64 s.data.toList), .iface T (.pointer (some ⟨N, 0, none⟩))])) ∧ Below w.heap.size w w' := by
  refine (Any.strconv_ParseInt_10_at64_range Tryz.laysC174 s hlim h ev w hv hev).mono ?_
  rintro e w' ⟨N, h1, -, -, h4⟩
  exact ⟨⟨N, _, h1⟩, h4⟩
set_option maxHeartbeats 1100000 in
set_option maxRecDepth 100000 in
/-- number.Read at a text with a fraction or an exponent, wherever (a whole number beyond int64) -/
theorem read_wfin (s : ByteArray) (R : Nat) (w : World) (hF : dcm.Fz w) (hs : s.size ≤ 1100000) (hR : R < 18446744073709551616) (hb : badF R = false) (hp : pfx (bytZ s) 0 = (s.size, s.size, 1)) (hrg : Lib.parseIntB 64 s.data.toList = .range)
    (NE : ∀ W, dcm.Fz W → Calls Tryz.prog 20 #[.string s] W fun e w' => e = .returned (.float .f64 R) ∧ Below W.heap.size W w') :
    Calls Tryz.prog 8 #[.string s] w fun e w' => e = .returned (.tuple #[.agg #[.int .i64 3, .int .i64 0, .float .f64 R], .int .i64 0]) ∧ Below w.heap.size w w' := by
  have CB := hide (conv_bytes s)
  have PR := hide (fun a n c W (h : Row .u8 W a n c (bytZ s)) (hn : n ≤ 4611686018427387900) => prefix_in_b a n c (bytZ s) 0 W h hn (Nat.zero_le _))
  rw [hp] at PR
  have HN := hide NE
  have HRG := hide hrg
  have HF := hide hF
  have HI := hide (fun W => isInf_ok R W hR (nan_bad hb))
  rw [hb] at HI
  obtain ⟨cap, W2, hcv, hrow, b2⟩ := conv_bytes s (w.alloc (.cells #[.int .i64 0, .int .i64 0, .float .f64 0] 27))
  have hz : (w.alloc (.cells #[.int .i64 0, .int .i64 0, .float .f64 0] 27)).heap.size = w.heap.size + 1 := by simp
  rw [hz] at hcv hrow b2
  have hb0 : (w.alloc (.cells #[.int .i64 0, .int .i64 0, .float .f64 0] 27)).heap[w.heap.size]? = some (.cells #[.int .i64 0, .int .i64 0, .float .f64 0] 27 (0, 0)) := heap_alloc_new w _
  have hb2 : W2.heap[w.heap.size]? = some (.cells #[.int .i64 0, .int .i64 0, .float .f64 0] 27 (0, 0)) := (b2.block w.heap.size (by omega)).trans hb0
  have bw2 : Below w.heap.size w W2 := ((Below.refl _ _).alloc (Nat.le_refl _) _).trans (b2.mono (by omega))
  have hz2 : w.heap.size + 1 ≤ W2.heap.size := by have := b2.size; rw [hz] at this; exact this
  have P1 := hide (unhide PR _ _ _ W2 hrow (by omega))
  have HX := hide (And.intro hb2 (And.intro bw2 hz2))
  have e0 : ((s.size : Int) != (s.size : Int)) = false := by simp
  clear hrg NE hF hb hR hp CB PR b2 hb0 hb2 bw2 hz2 hrow
  go_enter Tryz.func8, Tryz.ntmps8
  go_wp2_with fail
  refine (unhide P1).mono ?_
  rintro e w1 ⟨rfl, b1⟩
  obtain ⟨x1, x2, x3⟩ := unhide HX
  have bw1 := x2.trans (b1.mono x2.size)
  have hb1 : w1.heap[w.heap.size]? = some (.cells #[.int .i64 0, .int .i64 0, .float .f64 0] 27 (0, 0)) := (b1.block w.heap.size (by omega)).trans x1
  have hz1 : w.heap.size < w1.heap.size := by have := b1.size; omega
  obtain ⟨ev, v1, v2⟩ := ((unhide HF).below bw1).ev.ev
  have PI := hide (pi_range s (by omega) (unhide HRG) ev w1 v1 v2)
  have HY0 := hide (And.intro hb1 (And.intro bw1 hz1))
  clear b1 x1 x2 x3 bw1 hb1 hz1 HX P1 hcv v1 v2
  go_wp2_with fail
  refine (unhide PI).mono ?_
  rintro e w1' ⟨⟨NN, TT, rfl⟩, b1'⟩
  obtain ⟨y1, y2, y3⟩ := unhide HY0
  have bw1' := y2.trans (b1'.mono y2.size)
  have hb1' : w1'.heap[w.heap.size]? = some (.cells #[.int .i64 0, .int .i64 0, .float .f64 0] 27 (0, 0)) := (b1'.block w.heap.size y3).trans y1
  have hz1' : w.heap.size < w1'.heap.size := by have := b1'.size; omega
  have N1 := hide (unhide HN w1' ((unhide HF).below bw1'))
  have HY := hide (And.intro hb1' (And.intro bw1' hz1'))
  clear b1' y1 y2 y3 bw1' hb1' hz1' HY0 PI HN
  go_wp2_with fail
  refine (unhide N1).mono ?_
  rintro e w2 ⟨rfl, b2⟩
  obtain ⟨x1, x2, x3⟩ := unhide HY
  have bw2 := x2.trans (b2.mono x2.size)
  have hb2 : w2.heap[w.heap.size]? = some (.cells #[.int .i64 0, .int .i64 0, .float .f64 0] 27 (0, 0)) := (b2.block w.heap.size x3).trans x1
  have hth := hide (thr_cells hb2 (o := 0) (n := 3) (by decide))
  have HB := hide bw2
  clear b2 x1 x2 x3 bw2 hb2 HY N1
  go_wp2_with fail
  refine (unhide HI _).mono ?_
  rintro e w3 ⟨rfl, hw⟩
  subst w3
  clear HI
  go_wp2_with (first
    | refine wpList_store_mid (by rfl) 27 _ _ (by rfl) w.heap.size 0 #[.int .i64 3, .int .i64 0, .float .f64 R] (by rfl) (by rfl) (unhide hth) infoNum (one_c (cs := [.int .i64 3, .int .i64 0, .float .f64 R]) (by rfl)) ?_)
  refine bodyPost_ret (rgn.result_row_tmp rfl _ _ w.heap.size 0 [.int .i64 3, .int .i64 0, .float .f64 R] _ rfl (World.rangeAt_setCells_same _ _ _ _ (unhide hth)) Tryz.underlying27 rfl infoNum) rfl ?_
  exact ⟨rfl, bel_setCells _ _ _ _ (unhide HB) (Nat.le_refl _)⟩
set_option maxHeartbeats 1100000 in
set_option maxRecDepth 100000 in
/-- number.Read at a text whose float is an infinity (a whole number beyond int64) -/
theorem read_winf (s : ByteArray) (R : Nat) (w : World) (hF : dcm.Fz w) (hs : s.size ≤ 1100000) (hR : R < 18446744073709551616) (hnn : nanB R = false) (hb : badF R = true) (hp : pfx (bytZ s) 0 = (s.size, s.size, 1)) (hrg : Lib.parseIntB 64 s.data.toList = .range)
    (NE : ∀ W, dcm.Fz W → Calls Tryz.prog 20 #[.string s] W fun e w' => e = .returned (.float .f64 R) ∧ Below W.heap.size W w') :
    Calls Tryz.prog 8 #[.string s] w fun e w' => e = .returned (.tuple #[.agg #[.int .i64 0, .int .i64 0, .float .f64 0], .int .i64 7]) ∧ Below w.heap.size w w' := by
  have CB := hide (conv_bytes s)
  have PR := hide (fun a n c W (h : Row .u8 W a n c (bytZ s)) (hn : n ≤ 4611686018427387900) => prefix_in_b a n c (bytZ s) 0 W h hn (Nat.zero_le _))
  rw [hp] at PR
  have HN := hide NE
  have HRG := hide hrg
  have HF := hide hF
  have HI := hide (fun W => isInf_ok R W hR hnn)
  rw [hb] at HI
  obtain ⟨cap, W2, hcv, hrow, b2⟩ := conv_bytes s (w.alloc (.cells #[.int .i64 0, .int .i64 0, .float .f64 0] 27))
  have hz : (w.alloc (.cells #[.int .i64 0, .int .i64 0, .float .f64 0] 27)).heap.size = w.heap.size + 1 := by simp
  rw [hz] at hcv hrow b2
  have hb0 : (w.alloc (.cells #[.int .i64 0, .int .i64 0, .float .f64 0] 27)).heap[w.heap.size]? = some (.cells #[.int .i64 0, .int .i64 0, .float .f64 0] 27 (0, 0)) := heap_alloc_new w _
  have hb2 : W2.heap[w.heap.size]? = some (.cells #[.int .i64 0, .int .i64 0, .float .f64 0] 27 (0, 0)) := (b2.block w.heap.size (by omega)).trans hb0
  have bw2 : Below w.heap.size w W2 := ((Below.refl _ _).alloc (Nat.le_refl _) _).trans (b2.mono (by omega))
  have hz2 : w.heap.size + 1 ≤ W2.heap.size := by have := b2.size; rw [hz] at this; exact this
  have P1 := hide (unhide PR _ _ _ W2 hrow (by omega))
  have HX := hide (And.intro hb2 (And.intro bw2 hz2))
  have e0 : ((s.size : Int) != (s.size : Int)) = false := by simp
  clear hrg NE hF hb hnn hR hp CB PR b2 hb0 hb2 bw2 hz2 hrow
  go_enter Tryz.func8, Tryz.ntmps8
  go_wp2_with fail
  refine (unhide P1).mono ?_
  rintro e w1 ⟨rfl, b1⟩
  obtain ⟨x1, x2, x3⟩ := unhide HX
  have bw1 := x2.trans (b1.mono x2.size)
  have hb1 : w1.heap[w.heap.size]? = some (.cells #[.int .i64 0, .int .i64 0, .float .f64 0] 27 (0, 0)) := (b1.block w.heap.size (by omega)).trans x1
  have hz1 : w.heap.size < w1.heap.size := by have := b1.size; omega
  obtain ⟨ev, v1, v2⟩ := ((unhide HF).below bw1).ev.ev
  have PI := hide (pi_range s (by omega) (unhide HRG) ev w1 v1 v2)
  have HY0 := hide (And.intro hb1 (And.intro bw1 hz1))
  clear b1 x1 x2 x3 bw1 hb1 hz1 HX P1 hcv v1 v2
  go_wp2_with fail
  refine (unhide PI).mono ?_
  rintro e w1' ⟨⟨NN, TT, rfl⟩, b1'⟩
  obtain ⟨y1, y2, y3⟩ := unhide HY0
  have bw1' := y2.trans (b1'.mono y2.size)
  have hb1' : w1'.heap[w.heap.size]? = some (.cells #[.int .i64 0, .int .i64 0, .float .f64 0] 27 (0, 0)) := (b1'.block w.heap.size y3).trans y1
  have hz1' : w.heap.size < w1'.heap.size := by have := b1'.size; omega
  have N1 := hide (unhide HN w1' ((unhide HF).below bw1'))
  have HY := hide (And.intro hb1' (And.intro bw1' hz1'))
  clear b1' y1 y2 y3 bw1' hb1' hz1' HY0 PI HN
  go_wp2_with fail
  refine (unhide N1).mono ?_
  rintro e w2 ⟨rfl, b2⟩
  obtain ⟨x1, x2, x3⟩ := unhide HY
  have bw2 := x2.trans (b2.mono x2.size)
  have hb2 : w2.heap[w.heap.size]? = some (.cells #[.int .i64 0, .int .i64 0, .float .f64 0] 27 (0, 0)) := (b2.block w.heap.size x3).trans x1
  have hth := hide (thr_cells hb2 (o := 0) (n := 3) (by decide))
  have HB := hide bw2
  clear b2 x1 x2 x3 bw2 hb2 HY N1
  go_wp2_with fail
  refine (unhide HI _).mono ?_
  rintro e w3 ⟨rfl, hw⟩
  subst w3
  clear HI
  go_wp2_with (first
    | refine wpList_store_mid (by rfl) 27 _ _ (by rfl) w.heap.size 0 #[.int .i64 0, .int .i64 0, .float .f64 0] (by rfl) (by rfl) (unhide hth) infoNum (one_c (cs := [.int .i64 0, .int .i64 0, .float .f64 0]) (by rfl)) ?_)
  refine bodyPost_ret (rgn.result_row_tmp rfl _ _ w.heap.size 0 [.int .i64 0, .int .i64 0, .float .f64 0] _ rfl (World.rangeAt_setCells_same _ _ _ _ (unhide hth)) Tryz.underlying27 rfl infoNum) rfl ?_
  exact ⟨rfl, bel_setCells _ _ _ _ (unhide HB) (Nat.le_refl _)⟩
end Go.Proofs.YtjlaoeigfokkiaaGreatDoor.fto
