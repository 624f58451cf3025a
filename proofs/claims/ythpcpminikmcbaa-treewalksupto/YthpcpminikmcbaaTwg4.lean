import Derived.Test.YthpcpminikmcbaaTwg3
import Derived.Test.YthpcpminikmcbaaTwg2
import Derived.Deep.QuietTactic
namespace Go.Proofs.Ythpcpminikmcbaa.og
open Go.ChangeShapes Go.WideShapes Go.ChangeAt Go.RowKit
open vl hiding cB cFl cS cF cI cK cIt
open stp (c3 c3_lt c3_gt c3_eq cB cB_tri)
set_option linter.unusedVariables false
set_option linter.unusedSimpArgs false
theorem str_cmpE (a b : ByteArray) (w : World) : Calls Try.prog 66 #[.string a, .string b] w fun e w' => e = .returned (.int .i64 (cB a b)) ∧ w = w' := by
  have hr := fun w => stp.run_cmp a b w
  go_enter Try.func66, Try.ntmps66
  go_wp2
  go_ret
  exact ⟨rfl, rfl⟩
theorem i64_cmp (x t : Int) (w : World) : Calls Try.prog 64 #[.int .i64 x, .int .i64 t] w fun e w' => e = .returned (.int .i64 (c3 x t)) ∧ w = w' := by
  rcases Int.lt_trichotomy x t with h | h | h
  · go_enter Try.func64, Try.ntmps64
    go_wp2
    go_ret
    exact ⟨by rw [c3_lt h]; rfl, rfl⟩
  · go_enter Try.func64, Try.ntmps64
    go_wp2
    go_ret
    exact ⟨by rw [c3_eq (by omega)]; rfl, rfl⟩
  · go_enter Try.func64, Try.ntmps64
    go_wp2
    go_ret
    exact ⟨by rw [c3_gt h]; rfl, rfl⟩
theorem kind_cmp (x t : Int) (w : World) : Calls Try.prog 62 #[.int .i64 x, .int .i64 t] w fun e w' => e = .returned (.int .i64 (c3 x t)) ∧ w = w' := by
  rcases Int.lt_trichotomy x t with h | h | h
  · go_enter Try.func62, Try.ntmps62
    go_wp2
    go_ret
    exact ⟨by rw [c3_lt h]; rfl, rfl⟩
  · go_enter Try.func62, Try.ntmps62
    go_wp2
    go_ret
    exact ⟨by rw [c3_eq (by omega)]; rfl, rfl⟩
  · go_enter Try.func62, Try.ntmps62
    go_wp2
    go_ret
    exact ⟨by rw [c3_gt h]; rfl, rfl⟩
theorem bools_ok (a b : Bool) (w : World) : Calls Try.prog 63 #[.bool a, .bool b] w fun e w' => e = .returned (.int .i64 (cBo a b)) ∧ w = w' := by
  cases a <;> cases b
  all_goals
    go_enter Try.func63, Try.ntmps63
    go_wp2
    go_ret
    exact ⟨rfl, rfl⟩
theorem cmpOr_ok (x y : Int) (b : Nat) (w : World) (h0 : w.cell? ⟨b, 0, none⟩ = some (.int .i64 x)) (h1 : w.cell? ⟨b, 1, none⟩ = some (.int .i64 y)) : Calls Try.prog 70 #[.slice (some ⟨b, 0, none⟩) 2 2] w fun e w' => e = .returned (.int .i64 (if x = 0 then y else x)) ∧ w = w' := by
  by_cases hx : x = 0
  · subst hx
    by_cases hy : y = 0
    · subst hy
      go_enter Try.func70, Try.ntmps70
      go_wp2_with fail
      go_loopw [8] (fun v wr => ∃ k : Nat, k ≤ 2 ∧ v = .int .i64 k ∧ w = wr) (fun v _ => 2 - (intOf v).toNat)
      case atStart => exact ⟨0, by omega, rfl, rfl⟩
      case round =>
        obtain ⟨k, hk, rfl, rfl⟩ := hrel
        rcases (by omega : k = 0 ∨ k = 1 ∨ k = 2) with rfl | rfl | rfl
        · go_wp2
          go_roundw
          case rel => exact ⟨1, by omega, by go_num, (by first | rfl | trivial)⟩
          case measure => simp [intOf]
        · go_wp2
          go_roundw
          case rel => exact ⟨2, by omega, by go_num, (by first | rfl | trivial)⟩
          case measure => simp [intOf]
        · go_wp2
          go_ret
          exact ⟨rfl, rfl⟩
    · have hy2 : (y != 0) = true := by simpa using hy
      go_enter Try.func70, Try.ntmps70
      go_wp2_with fail
      go_loopw [8] (fun v wr => ∃ k : Nat, k ≤ 1 ∧ v = .int .i64 k ∧ w = wr) (fun v _ => 2 - (intOf v).toNat)
      case atStart => exact ⟨0, by omega, rfl, rfl⟩
      case round =>
        obtain ⟨k, hk, rfl, rfl⟩ := hrel
        rcases (by omega : k = 0 ∨ k = 1) with rfl | rfl
        · go_wp2
          go_roundw
          case rel => exact ⟨1, by omega, by go_num, (by first | rfl | trivial)⟩
          case measure => simp [intOf]
        · go_wp2
          go_ret
          exact ⟨rfl, rfl⟩
  · have hx2 : (x != 0) = true := by simpa using hx
    have hi := hide (show (if x = 0 then y else x) = x from if_neg hx)
    generalize (if x = 0 then y else x) = r at *
    go_enter Try.func70, Try.ntmps70
    go_wp2_with fail
    go_loopw [8] (fun v wr => v = .int .i64 0 ∧ w = wr) (fun v _ => 2 - (intOf v).toNat)
    case atStart => exact ⟨rfl, rfl⟩
    case round =>
      obtain ⟨rfl, rfl⟩ := hrel
      go_wp2
      go_ret
      exact ⟨by rw [unhide hi]; rfl, rfl⟩
def kdV : Vl → Int
  | .mk kd _ _ _ _ _ _ _ => kdOf kd
theorem kindOf_ok (v : Vl) (cs : List Value) (w w0 : World) (hv : VlC w0 v cs) : Calls Try.prog 61 #[.agg cs.toArray] w fun e w' => e = .returned (.int .i64 (kdV v)) ∧ Gr w w' := by
  obtain ⟨kd, b, n, f, tx, ty, its, fls⟩ := v
  unfold VlC at hv
  obtain ⟨ai, ni, ci, af, nf, cf, rfl, -⟩ := hv
  unfold kdV
  by_cases h1 : kd < 0
  · have hr := hide (show kdOf kd = 0 by unfold kdOf; rw [if_pos (.inl h1)])
    go_enter Try.func61, Try.ntmps61
    go_wp2
    go_ret
    exact ⟨by rw [unhide hr]; rfl, (Gr.refl _).alloc _⟩
  · by_cases h2 : 7 < kd
    · have hr := hide (show kdOf kd = 0 by unfold kdOf; rw [if_pos (.inr h2)])
      go_enter Try.func61, Try.ntmps61
      go_wp2
      go_ret
      exact ⟨by rw [unhide hr]; rfl, (Gr.refl _).alloc _⟩
    · have hr := hide (show kdOf kd = kd by unfold kdOf; rw [if_neg (by omega)])
      go_enter Try.func61, Try.ntmps61
      go_wp2
      go_ret
      exact ⟨by rw [unhide hr]; rfl, (Gr.refl _).alloc _⟩
end Go.Proofs.Ythpcpminikmcbaa.og
namespace Go.Proofs.Ythpcpminikmcbaa.og
open Go.ChangeShapes Go.WideShapes Go.ChangeAt Go.RowKit
open vl hiding cB cFl cS cF cI cK cIt
open stp (c3 c3_lt c3_gt c3_eq cB cB_tri)
set_option linter.unusedVariables false
set_option linter.unusedSimpArgs false
theorem run_tobits (x : Nat) (w : World) : (callFunc 113 #[.float .f64 x]).run Try.prog w = .ok (.value (.int .u64 x)) w := by
  rw [run_callFunc_extern (e := Extern.MathFloatBits.float64bits) Try.func113 (by kernel_rfl) (by kernel_rfl) (by kernel_rfl) (by kernel_rfl)]
  rfl
theorem isNaN_any (x : Nat) (w : World) (h : x < 18446744073709551616) : Calls Try.prog 81 #[.float .f64 x] w fun e w' => e = .returned (.bool (nanF x)) ∧ w = w' := by
  have ho := (ordSelf x h).1
  generalize nanF x = N at *
  go_enter Try.func81, Try.ntmps81
  go_wp2
  go_ret
  exact ⟨by first | rfl | (rw [← ho]; rfl), rfl⟩
theorem cnan_any (x : Nat) (w : World) (h : x < 18446744073709551616) : Calls Try.prog 114 #[.float .f64 x] w fun e w' => e = .returned (.bool (nanF x)) ∧ w = w' := by
  have ho := (ordSelf x h).1
  generalize nanF x = N at *
  go_enter Try.func114, Try.ntmps114
  go_wp2
  go_ret
  exact ⟨by first | rfl | (rw [← ho]; rfl), rfl⟩
theorem sameF_ok (a b : Nat) (w : World) (ha : a < 18446744073709551616) (hb : b < 18446744073709551616) : Calls Try.prog 91 #[.float .f64 a, .float .f64 b] w fun e w' => e = .returned (.bool (sameF a b)) ∧ w = w' := by
  have NA := hide (fun W => isNaN_any a W ha)
  have NB := hide (fun W => isNaN_any b W hb)
  have T1 := run_tobits a w
  have T2 := run_tobits b w
  have HS := hide (show sameF a b = ((a == b) || (nanF a && nanF b)) from rfl)
  have HE := hide (show (a == b) = true → nanF a = nanF b from fun h => by rw [eq_of_beq h])
  generalize nanF a = A at *
  generalize nanF b = B at *
  cases A
  · cases B
    · have hi : (((a : Nat) : Int) == ((b : Nat) : Int)) = (a == b) := by
        by_cases h : a = b
        · subst h; simp
        · have h2 : ((a : Int) == (b : Int)) = false := by simp; omega
          rw [h2]; simp [h]
      cases hab : (a == b)
      all_goals
        rw [hab] at hi HS HE
        clear hab
        go_enter Try.func91, Try.ntmps91
        go_wp2_with fail
        refine (unhide NA _).mono ?_
        rintro e w1 ⟨rfl, rfl⟩
        go_wp2_with fail
        refine (unhide NB _).mono ?_
        rintro e w2 ⟨rfl, rfl⟩
        go_wp2
        go_ret
        exact ⟨by rw [unhide HS]; rfl, rfl⟩
    · have hab : (a == b) = false := by
        cases h : (a == b)
        · rfl
        · have := unhide HE h; cases this
      rw [hab] at HS
      clear hab HE
      go_enter Try.func91, Try.ntmps91
      go_wp2_with fail
      refine (unhide NA _).mono ?_
      rintro e w1 ⟨rfl, rfl⟩
      go_wp2_with fail
      refine (unhide NB _).mono ?_
      rintro e w2 ⟨rfl, rfl⟩
      go_wp2_with fail
      refine (unhide NA _).mono ?_
      rintro e w3 ⟨rfl, rfl⟩
      go_wp2
      go_ret
      exact ⟨by rw [unhide HS]; rfl, rfl⟩
  · cases B
    · have hab : (a == b) = false := by
        cases h : (a == b)
        · rfl
        · have := unhide HE h; cases this
      rw [hab] at HS
      clear hab HE
      go_enter Try.func91, Try.ntmps91
      go_wp2_with fail
      refine (unhide NA _).mono ?_
      rintro e w1 ⟨rfl, rfl⟩
      go_wp2_with fail
      refine (unhide NA _).mono ?_
      rintro e w2 ⟨rfl, rfl⟩
      go_wp2_with fail
      refine (unhide NB _).mono ?_
      rintro e w3 ⟨rfl, rfl⟩
      go_wp2
      go_ret
      exact ⟨by rw [unhide HS]; rfl, rfl⟩
    · have HT := hide (show sameF a b = true from by rw [unhide HS]; simp)
      clear HE HS
      go_enter Try.func91, Try.ntmps91
      go_wp2_with fail
      refine (unhide NA _).mono ?_
      rintro e w1 ⟨rfl, rfl⟩
      go_wp2_with fail
      refine (unhide NA _).mono ?_
      rintro e w2 ⟨rfl, rfl⟩
      go_wp2_with fail
      refine (unhide NB _).mono ?_
      rintro e w3 ⟨rfl, rfl⟩
      go_wp2
      go_ret
      exact ⟨by rw [unhide HT]; rfl, rfl⟩
theorem cmpF_ok (a b : Nat) (w : World) (ha : a < 18446744073709551616) (hb : b < 18446744073709551616) : Calls Try.prog 92 #[.float .f64 a, .float .f64 b] w fun e w' => e = .returned (.int .i64 (cmpF a b)) ∧ w = w' := by
  have NA := hide (fun W => cnan_any a W ha)
  have NB := hide (fun W => cnan_any b W hb)
  have HC := hide (show cmpF a b = (if nanF a = true then (if nanF b = true then 0 else -1) else if nanF b = true then 1 else if (FloatKind.f64.format.order a b == some Ordering.lt) = true then -1 else if (FloatKind.f64.format.order a b == some Ordering.gt) = true then 1 else 0) from rfl)
  generalize cmpF a b = C at *
  generalize nanF a = A at *
  generalize nanF b = B at *
  clear ha hb
  cases A
  · cases B
    · cases hl : (FloatKind.f64.format.order a b == some Ordering.lt)
      · cases hg : (FloatKind.f64.format.order a b == some Ordering.gt)
        · have HC := hide ((unhide HC).trans (show _ = (0 : Int) by rw [hl, hg]; rfl))
          go_enter Try.func92, Try.ntmps92
          go_wp2_with fail
          refine (unhide NA _).mono ?_
          rintro e w1 ⟨rfl, rfl⟩
          go_wp2_with fail
          refine (unhide NB _).mono ?_
          rintro e w2 ⟨rfl, rfl⟩
          go_wp2
          go_ret
          exact ⟨by rw [unhide HC]; rfl, rfl⟩
        · have HC := hide ((unhide HC).trans (show _ = (1 : Int) by rw [hl, hg]; rfl))
          go_enter Try.func92, Try.ntmps92
          go_wp2_with fail
          refine (unhide NA _).mono ?_
          rintro e w1 ⟨rfl, rfl⟩
          go_wp2_with fail
          refine (unhide NB _).mono ?_
          rintro e w2 ⟨rfl, rfl⟩
          go_wp2
          go_ret
          exact ⟨by rw [unhide HC]; rfl, rfl⟩
      · have HC := hide ((unhide HC).trans (show _ = (-1 : Int) by rw [hl]; rfl))
        go_enter Try.func92, Try.ntmps92
        go_wp2_with fail
        refine (unhide NA _).mono ?_
        rintro e w1 ⟨rfl, rfl⟩
        go_wp2_with fail
        refine (unhide NB _).mono ?_
        rintro e w2 ⟨rfl, rfl⟩
        go_wp2
        go_ret
        exact ⟨by rw [unhide HC]; rfl, rfl⟩
    · have HC := hide ((unhide HC).trans (show _ = (1 : Int) from rfl))
      go_enter Try.func92, Try.ntmps92
      go_wp2_with fail
      refine (unhide NA _).mono ?_
      rintro e w1 ⟨rfl, rfl⟩
      go_wp2_with fail
      refine (unhide NB _).mono ?_
      rintro e w2 ⟨rfl, rfl⟩
      go_wp2
      go_ret
      exact ⟨by rw [unhide HC]; rfl, rfl⟩
  · cases B
    · have HC := hide ((unhide HC).trans (show _ = (-1 : Int) from rfl))
      go_enter Try.func92, Try.ntmps92
      go_wp2_with fail
      refine (unhide NA _).mono ?_
      rintro e w1 ⟨rfl, rfl⟩
      go_wp2_with fail
      refine (unhide NB _).mono ?_
      rintro e w2 ⟨rfl, rfl⟩
      go_wp2
      go_ret
      exact ⟨by rw [unhide HC]; rfl, rfl⟩
    · have HC := hide ((unhide HC).trans (show _ = (0 : Int) from rfl))
      go_enter Try.func92, Try.ntmps92
      go_wp2_with fail
      refine (unhide NA _).mono ?_
      rintro e w1 ⟨rfl, rfl⟩
      go_wp2_with fail
      refine (unhide NB _).mono ?_
      rintro e w2 ⟨rfl, rfl⟩
      go_wp2
      go_ret
      exact ⟨by rw [unhide HC]; rfl, rfl⟩
theorem i64_of (x : Nat) (h : x < 18446744073709551616) : decide (wrap64 (x : Int) < 0) = sgn x := by
  unfold sgn
  by_cases h1 : 9223372036854775808 ≤ x
  · rw [decide_eq_true h1]
    have : wrap64 (x : Int) = x - 18446744073709551616 := by unfold wrap64; omega
    rw [this]
    simp
    omega
  · rw [decide_eq_false h1]
    have : wrap64 (x : Int) = x := by unfold wrap64; omega
    rw [this]
    simp
theorem sgn_ok (x : Nat) (w : World) (h : x < 18446744073709551616) : Calls Try.prog 93 #[.float .f64 x] w fun e w' => e = .returned (.bool (sgn x)) ∧ w = w' := by
  have T1 := run_tobits x w
  have hs := i64_of x h
  generalize sgn x = S at *
  go_enter Try.func93, Try.ntmps93
  go_wp2
  go_ret
  exact ⟨by first | rfl | (rw [← hs]; rfl), rfl⟩
theorem floats_ok (a b : Nat) (w : World) (ha : a < 18446744073709551616) (hb : b < 18446744073709551616) : Calls Try.prog 65 #[.float .f64 a, .float .f64 b] w fun e w' => e = .returned (.int .i64 (cFl a b)) ∧ w = w' := by
  have HS := hide (fun W => sameF_ok a b W ha hb)
  have HC := hide (fun W => cmpF_ok a b W ha hb)
  have H1 := hide (fun W => sgn_ok b W hb)
  have H2 := hide (fun W => sgn_ok a W ha)
  have HR := hide (show cFl a b = (if sameF a b = true then 0 else if cmpF a b = 0 then cBo (sgn b) (sgn a) else cmpF a b) from rfl)
  generalize cFl a b = R at *
  generalize sgn a = sa at *
  generalize sgn b = sb at *
  generalize sameF a b = S at *
  generalize cmpF a b = C at *
  clear ha hb
  cases S
  · by_cases hc : C = 0
    · have HR := hide ((unhide HR).trans (show _ = cBo sb sa by rw [if_neg (by simp), if_pos hc]))
      subst hc
      go_enter Try.func65, Try.ntmps65
      go_wp2_with fail
      refine (unhide HS _).mono ?_
      rintro e w1 ⟨rfl, rfl⟩
      go_wp2_with fail
      refine (unhide HC _).mono ?_
      rintro e w1 ⟨rfl, rfl⟩
      go_wp2_with fail
      refine (unhide H1 _).mono ?_
      rintro e w1 ⟨rfl, rfl⟩
      go_wp2_with fail
      refine (unhide H2 _).mono ?_
      rintro e w1 ⟨rfl, rfl⟩
      go_wp2_with fail
      refine (bools_ok sb sa _).mono ?_
      rintro e w1 ⟨rfl, rfl⟩
      go_wp2
      go_ret
      exact ⟨by rw [unhide HR]; rfl, rfl⟩
    · have HR := hide ((unhide HR).trans (show _ = C by rw [if_neg (by simp), if_neg hc]))
      go_enter Try.func65, Try.ntmps65
      go_wp2_with fail
      refine (unhide HS _).mono ?_
      rintro e w1 ⟨rfl, rfl⟩
      go_wp2_with fail
      refine (unhide HC _).mono ?_
      rintro e w1 ⟨rfl, rfl⟩
      go_wp2
      go_ret
      exact ⟨by rw [unhide HR]; rfl, rfl⟩
  · have HR := hide ((unhide HR).trans (show _ = (0 : Int) by rw [if_pos rfl]))
    go_enter Try.func65, Try.ntmps65
    go_wp2_with fail
    refine (unhide HS _).mono ?_
    rintro e w1 ⟨rfl, rfl⟩
    go_wp2
    go_ret
    exact ⟨by rw [unhide HR]; rfl, rfl⟩
end Go.Proofs.Ythpcpminikmcbaa.og
namespace Go.Proofs.Ythpcpminikmcbaa.og
open Go.ChangeShapes Go.WideShapes Go.ChangeAt Go.RowKit
open vl hiding cB cFl cS cF cI cK cIt
open stp (c3 c3_lt c3_gt c3_eq cB cB_tri)
set_option linter.unusedVariables false
set_option linter.unusedSimpArgs false
/-- order at two values -/
def OrdAt (v u : Vl) : Prop := ∀ (cs ds : List Value) (w : World), VlC w v cs → VlC w u ds → Calls Try.prog 36 #[.agg cs.toArray, .agg ds.toArray] w fun e w' => e = .returned (.int .i64 (ordV v u)) ∧ Gr w w'
def OrdMAt (p q : ByteArray × Vl) : Prop := ∀ (cs ds : List Value) (w : World), VlC w p.2 cs → VlC w q.2 ds → Calls Try.prog 69 #[.agg (Value.string p.1 :: cs).toArray, .agg (Value.string q.1 :: ds).toArray] w fun e w' => e = .returned (.int .i64 (ordM p q)) ∧ Gr w w'
set_option maxHeartbeats 2000000 in
theorem ordM_ok (p q : ByteArray × Vl) (ih : OrdAt p.2 q.2) : OrdMAt p q := by
  intro cs ds w h1 h2
  obtain ⟨nm, v⟩ := p
  obtain ⟨nm', u⟩ := q
  simp only at h1 h2 ih ⊢
  have IH := hide (ih cs ds)
  have HO := hide (show ordM (nm, v) (nm', u) = (if cB nm nm' = 0 then ordV v u else cB nm nm') from rfl)
  have c8 := h1.cells
  have d8 := h2.cells
  obtain ⟨W, eW⟩ : ∃ W, W = (w.alloc (.cells (Value.string nm :: cs).toArray 69)).alloc (.cells (Value.string nm' :: ds).toArray 69) := ⟨_, rfl⟩
  have bW : Gr w W := by rw [eW]; exact ((Gr.refl _).alloc _).alloc _
  have r1 : W.rangeAt w.heap.size 0 (Value.string nm :: cs) := fun j x hx => by
    rw [eW, Nat.zero_add, World.cell?_alloc_past _ _ _ (by simp), World.cell?_alloc_at _ _ _ _ rfl]; simpa using hx
  have r2 : W.rangeAt (w.heap.size + 1) 0 (Value.string nm' :: ds) := fun j x hx => by
    rw [eW, Nat.zero_add, World.cell?_alloc_at _ _ _ _ (by simp)]; simpa using hx
  have a0 : W.cell? ⟨w.heap.size, 0, none⟩ = some (.string nm) := r1 0 _ rfl
  have b0 : W.cell? ⟨w.heap.size + 1, 0, none⟩ = some (.string nm') := r2 0 _ rfl
  have k1 : W.rangeAt w.heap.size 1 cs := fun j x hx => by have := r1 (j + 1) x (by simpa using hx); rwa [show 0 + (j + 1) = 1 + j by omega] at this
  have k2 : W.rangeAt (w.heap.size + 1) 1 ds := fun j x hx => by have := r2 (j + 1) x (by simpa using hx); rwa [show 0 + (j + 1) = 1 + j by omega] at this
  have i1 : (Try.prog.info? 27).map (·.size) = some cs.length := by rw [c8]; exact infoV
  have i2 : (Try.prog.info? 27).map (·.size) = some ds.length := by rw [d8]; exact infoV
  have HH := hide (And.intro k1 (And.intro k2 (And.intro i1 (And.intro i2 (And.intro (VlC.below bW.1 _ _ h1) (VlC.below bW.1 _ _ h2))))))
  have EW := hide eW
  clear eW r1 r2 k1 k2 i1 i2 h1 h2 c8 d8 ih
  generalize hcb : cB nm nm' = C at *
  have HCB := hide hcb
  clear hcb
  by_cases hc : C = 0
  · have HO := hide ((unhide HO).trans (if_pos hc))
    have HCB := hide ((unhide HCB).trans hc)
    subst hc
    go_enter Try.func69, Try.ntmps69
    go_wp2_with fail
    rw [← unhide EW]
    clear EW
    refine (str_cmpE nm nm' _).mono ?_
    rintro e w1 ⟨rfl, rfl⟩
    rw [unhide HCB]
    go_wp2_with (first
      | refine wpList_load_mid (by rfl) 27 _ (by rfl) w.heap.size 1 (by rfl) cs _ (unhide HH).1 Try.underlying27 (by rfl) (unhide HH).2.2.1 ?_
      | refine wpList_load_mid (by rfl) 27 _ (by rfl) (w.heap.size + 1) 1 (by rfl) ds _ (unhide HH).2.1 Try.underlying27 (by rfl) (unhide HH).2.2.2.1 ?_)
    refine (unhide IH _ (unhide HH).2.2.2.2.1 (unhide HH).2.2.2.2.2).mono ?_
    rintro e w2 ⟨rfl, g2⟩
    go_wp2
    go_ret
    exact ⟨by rw [unhide HO]; rfl, bW.trans g2⟩
  · have HO := hide ((unhide HO).trans (if_neg hc))
    have hc2 : (C != 0) = true := by simpa using hc
    go_enter Try.func69, Try.ntmps69
    go_wp2_with fail
    rw [← unhide EW]
    clear EW
    refine (str_cmpE nm nm' _).mono ?_
    rintro e w1 ⟨rfl, rfl⟩
    rw [unhide HCB]
    go_wp2
    go_ret
    exact ⟨by rw [unhide HO]; rfl, bW⟩
set_option maxHeartbeats 4000000 in
set_option maxRecDepth 6000 in
theorem cmpV_ok (A B : Vls) (ih : ∀ v ∈ A.list, ∀ u ∈ B.list, OrdAt v u) (aA aB : Option Addr) (nA cA nB cB' : Nat) (w : World) (hA : VlsAt w A aA nA) (hB : VlsAt w B aB nB) (bA : nA ≤ 4611686018427387903) (bB : nB ≤ 4611686018427387903) :
    Calls Try.prog 67 #[.slice aA nA cA, .slice aB nB cB', .func (.func 36) #[] #[]] w fun e w' => e = .returned (.int .i64 (lexG ordV A.list B.list)) ∧ Gr w w' := by
  have en : ∀ args w, (callFunc 36 args).run Try.prog w = .ok (.enter 36 args) w := fun _ _ => rfl
  have lA := hide (VlsAt.len A _ _ hA)
  have lB := hide (VlsAt.len B _ _ hB)
  go_enter Try.func67, Try.ntmps67
  go_wp2_with fail
  go_loopw [13] (fun v wr => ∃ k : Nat, k ≤ nA ∧ k ≤ nB ∧ v = .int .i64 k ∧ Gr w wr ∧ vl.Hid (lexG ordV A.list B.list = lexG ordV (A.list.drop k) (B.list.drop k))) (fun v _ => nA - (intOf v).toNat)
  case atStart => exact ⟨0, Nat.zero_le _, Nat.zero_le _, rfl, Gr.refl _, rfl⟩
  case round =>
    obtain ⟨k, hkA, hkB, rfl, hbk, hl⟩ := hrel
    by_cases hlt : k < nA
    · have ki : (k : Int) < (nA : Int) := by omega
      obtain ⟨b, off, v, cs, rfl, hg, hr, hv⟩ := VlsAt.get A _ _ (VlsAt.below hbk.1 A _ _ hA) k hlt
      have hr : wr.rangeAt b (off + k * 8) cs := hr
      have h1 := hv.one
      have c8 := hv.cells
      have i1 : (Try.prog.info? 27).map (·.size) = some cs.length := by rw [c8]; exact infoV
      have i2 : (Try.prog.info? 27).map (·.size) = some cs.toArray.size := by simp [c8, infoV]
      have HH := hide (And.intro i1 (And.intro i2 (And.intro (show cs.toArray.size = 8 by simp [c8]) c8)))
      clear i1 i2 c8
      by_cases hlb : k < nB
      · have kb : (k : Int) < (nB : Int) := by omega
        obtain ⟨b', off', u, ds, rfl, hg', hr', hv'⟩ := VlsAt.get B _ _ (VlsAt.below hbk.1 B _ _ hB) k hlb
        have g1 := hv'.one
        have d8 := hv'.cells
        have j1 : (Try.prog.info? 27).map (·.size) = some ds.length := by rw [d8]; exact infoV
        have j2 : (Try.prog.info? 27).map (·.size) = some ds.toArray.size := by simp [d8, infoV]
        obtain ⟨W, eW⟩ : ∃ W, W = (wr.alloc (.cells #[Value.int IntKind.i64 0, Value.bool false, Value.int IntKind.i64 0, Value.float FloatKind.f64 0, Value.string { data := #[] }, Value.string { data := #[] }, Value.slice none 0 0, Value.slice none 0 0] 27)).setCells wr.heap.size 0 cs := ⟨_, rfl⟩
        have bW : Gr wr W := by rw [eW]; exact ((Gr.refl _).alloc _).setCells (Nat.le_refl _) _ _
        have sW : W.heap.size = wr.heap.size + 1 := by rw [eW, size_setCells]; simp
        have rW : W.rangeAt wr.heap.size 0 cs := by rw [eW]; exact World.rangeAt_setCells_same _ _ _ _ (there_new (by show _ = cs.length; rw [(unhide HH).2.2.2]; rfl))
        have rW' : W.rangeAt b' (off' + k * 8) ds := Row8.below hr' bW.1
        have vW := VlC.below bW.1 _ _ hv
        have vW' := VlC.below bW.1 _ _ hv'
        obtain ⟨X, eX⟩ : ∃ X, X = (W.alloc (.cells #[Value.int IntKind.i64 0, Value.bool false, Value.int IntKind.i64 0, Value.float FloatKind.f64 0, Value.string { data := #[] }, Value.string { data := #[] }, Value.slice none 0 0, Value.slice none 0 0] 27)).setCells W.heap.size 0 ds := ⟨_, rfl⟩
        have bX : Gr W X := by rw [eX]; exact ((Gr.refl _).alloc _).setCells (Nat.le_refl _) _ _
        have rX : X.rangeAt W.heap.size 0 ds := by rw [eX]; exact World.rangeAt_setCells_same _ _ _ _ (there_new (by show _ = ds.length; rw [d8]; rfl))
        have rX' : X.rangeAt wr.heap.size 0 cs := Row8.below rW bX.1
        have IH := hide (ih v (List.mem_of_getElem? hg) u (List.mem_of_getElem? hg') cs ds X (VlC.below bX.1 _ _ vW) (VlC.below bX.1 _ _ vW'))
        have HS := hide (lexG_step (f := ordV) hg hg')
        have EW := hide eW
        have EX := hide eX
        have SW := hide sW
        have JJ := hide (And.intro j1 (And.intro j2 (And.intro (show ds.toArray.size = 8 by simp [d8]) d8)))
        have RR := hide (And.intro rW' (And.intro rX rX'))
        clear eW eX sW vW vW' j1 j2 d8 hv hv' rW hr' hg hg' rW' rX rX'
        go_wp2_with (first
          | (refine wpList_load_mid (by rfl) 27 _ (by rfl) b (off + k * 8) (by rfl) cs _ hr Try.underlying27 (by rfl) (unhide HH).1 ?_)
          | (refine wpList_store_mid (by rfl) 27 _ _ (by rfl) wr.heap.size 0 cs.toArray (by rfl) (by rfl) (there_new (by rw [(unhide HH).2.2.1]; rfl)) (unhide HH).2.1 h1 ?_; rw [show ((wr.alloc (.cells #[Value.int IntKind.i64 0, Value.bool false, Value.int IntKind.i64 0, Value.float FloatKind.f64 0, Value.string { data := #[] }, Value.string { data := #[] }, Value.slice none 0 0, Value.slice none 0 0] 27)).setCells wr.heap.size 0 cs.toArray.toList) = W from (unhide EW).symm]; clear hr)
          | (refine wpList_load_mid (by rfl) 27 _ (by rfl) b' (off' + k * 8) (by rfl) ds _ (unhide RR).1 Try.underlying27 (by rfl) (unhide JJ).1 ?_)
          | (refine wpList_store_mid (by rfl) 27 _ _ (by rfl) W.heap.size 0 ds.toArray (by rfl) (by rfl) (there_new (by rw [(unhide JJ).2.2.1]; rfl)) (unhide JJ).2.1 g1 ?_; rw [show ((W.alloc (.cells #[Value.int IntKind.i64 0, Value.bool false, Value.int IntKind.i64 0, Value.float FloatKind.f64 0, Value.string { data := #[] }, Value.string { data := #[] }, Value.slice none 0 0, Value.slice none 0 0] 27)).setCells W.heap.size 0 ds.toArray.toList) = X from (unhide EX).symm])
          | (refine wpList_load_mid (by rfl) 27 _ (by rfl) wr.heap.size 0 (by rfl) cs _ (unhide RR).2.2 Try.underlying27 (by rfl) (unhide HH).1 ?_)
          | (refine wpList_load_mid (by rfl) 27 _ (by rfl) W.heap.size 0 (by rfl) ds _ (unhide RR).2.1 Try.underlying27 (by rfl) (unhide JJ).1 ?_))
        refine (unhide IH).mono ?_
        rintro e w2 ⟨rfl, g2⟩
        have G2 : Gr w w2 := hbk.trans (bW.trans (bX.trans g2))
        by_cases hc : ordV v u = 0
        · have hc2 := hide hc
          rw [hc]
          clear hc
          go_wp2
          go_roundw
          case rel => exact ⟨k + 1, by omega, by omega, by go_num, G2, (unhide hl).trans ((unhide HS).trans (if_pos (unhide hc2)))⟩
          case measure => simp [intOf]; omega
        · have hc2 := hide hc
          generalize hcv : ordV v u = cv at *
          have hcv := hide hcv
          go_wp2
          go_ret
          exact ⟨by rw [unhide hl, unhide HS, if_neg (unhide hc2)]; rfl, G2⟩
      · have kb : ¬ (k : Int) < (nB : Int) := by omega
        go_wp2_with (first
          | (refine wpList_load_mid (by rfl) 27 _ (by rfl) b (off + k * 8) (by rfl) cs _ hr Try.underlying27 (by rfl) (unhide HH).1 ?_)
          | (refine wpList_store_mid (by rfl) 27 _ _ (by rfl) wr.heap.size 0 cs.toArray (by rfl) (by rfl) (there_new (by rw [(unhide HH).2.2.1]; rfl)) (unhide HH).2.1 h1 ?_))
        go_ret
        exact ⟨by rw [unhide hl, lexG_end2 (by rw [unhide lA]; exact hlt) (by rw [unhide lB]; omega)]; rfl, (hbk.alloc _).setCells hbk.1.size _ _⟩
    · have ki : ¬ (k : Int) < (nA : Int) := by omega
      by_cases hlb : k < nB
      · have kb : (nA : Int) < (nB : Int) := by omega
        go_wp2
        go_ret
        exact ⟨by rw [unhide hl, lexG_end1 (by rw [unhide lA]; omega) (by rw [unhide lB]; exact hlb)]; rfl, hbk⟩
      · have kb : ¬ (nA : Int) < (nB : Int) := by omega
        go_wp2
        go_ret
        exact ⟨by rw [unhide hl, lexG_end0 (by rw [unhide lA]; omega) (by rw [unhide lB]; omega)]; rfl, hbk⟩
end Go.Proofs.Ythpcpminikmcbaa.og
namespace Go.Proofs.Ythpcpminikmcbaa.og
open Go.ChangeShapes Go.WideShapes Go.ChangeAt Go.RowKit
open vl hiding cB cFl cS cF cI cK cIt
open stp (c3 c3_lt c3_gt c3_eq cB cB_tri)
set_option linter.unusedVariables false
set_option linter.unusedSimpArgs false
set_option maxHeartbeats 4000000 in
set_option maxRecDepth 6000 in
theorem cmpM_ok (A B : Fls) (ih : ∀ v ∈ A.list, ∀ u ∈ B.list, OrdMAt v u) (aA aB : Option Addr) (nA cA nB cB' : Nat) (w : World) (hA : FlsAt w A aA nA) (hB : FlsAt w B aB nB) (bA : nA ≤ 4611686018427387903) (bB : nB ≤ 4611686018427387903) :
    Calls Try.prog 68 #[.slice aA nA cA, .slice aB nB cB', .func (.func 69) #[] #[]] w fun e w' => e = .returned (.int .i64 (lexG ordM A.list B.list)) ∧ Gr w w' := by
  have en : ∀ args w, (callFunc 69 args).run Try.prog w = .ok (.enter 69 args) w := fun _ _ => rfl
  have lA := hide (FlsAt.len A _ _ hA)
  have lB := hide (FlsAt.len B _ _ hB)
  go_enter Try.func68, Try.ntmps68
  go_wp2_with fail
  go_loopw [13] (fun v wr => ∃ k : Nat, k ≤ nA ∧ k ≤ nB ∧ v = .int .i64 k ∧ Gr w wr ∧ vl.Hid (lexG ordM A.list B.list = lexG ordM (A.list.drop k) (B.list.drop k))) (fun v _ => nA - (intOf v).toNat)
  case atStart => exact ⟨0, Nat.zero_le _, Nat.zero_le _, rfl, Gr.refl _, rfl⟩
  case round =>
    obtain ⟨k, hkA, hkB, rfl, hbk, hl⟩ := hrel
    by_cases hlt : k < nA
    · have ki : (k : Int) < (nA : Int) := by omega
      obtain ⟨b, off, nm, v, cs, rfl, hg, hn0, -, hr, hv⟩ := FlsAt.get A _ _ (FlsAt.below hbk.1 A _ _ hA) k hlt
      have hr : wr.rangeAt b (off + k * 9) (Value.string nm :: cs) := row9 hr hn0
      have h1 := one9 nm hv
      have c8 := hv.cells
      have i1 : (Try.prog.info? 69).map (·.size) = some (Value.string nm :: cs).length := by rw [List.length_cons, c8]; exact infoM
      have i2 : (Try.prog.info? 69).map (·.size) = some (Value.string nm :: cs).toArray.size := by simp [c8, infoM]
      have HH := hide (And.intro i1 (And.intro i2 (And.intro (show (Value.string nm :: cs).toArray.size = 9 by simp [c8]) (show (Value.string nm :: cs).length = 9 by simp [c8]))))
      clear i1 i2 c8
      by_cases hlb : k < nB
      · have kb : (k : Int) < (nB : Int) := by omega
        obtain ⟨b', off', nm', u, ds, rfl, hg', hn0', -, hr', hv'⟩ := FlsAt.get B _ _ (FlsAt.below hbk.1 B _ _ hB) k hlb
        have g1 := one9 nm' hv'
        have d8 := hv'.cells
        have j1 : (Try.prog.info? 69).map (·.size) = some (Value.string nm' :: ds).length := by rw [List.length_cons, d8]; exact infoM
        have j2 : (Try.prog.info? 69).map (·.size) = some (Value.string nm' :: ds).toArray.size := by simp [d8, infoM]
        obtain ⟨W, eW⟩ : ∃ W, W = (wr.alloc (.cells #[Value.string { data := #[] }, Value.int IntKind.i64 0, Value.bool false, Value.int IntKind.i64 0, Value.float FloatKind.f64 0, Value.string { data := #[] }, Value.string { data := #[] }, Value.slice none 0 0, Value.slice none 0 0] 69)).setCells wr.heap.size 0 (Value.string nm :: cs) := ⟨_, rfl⟩
        have bW : Gr wr W := by rw [eW]; exact ((Gr.refl _).alloc _).setCells (Nat.le_refl _) _ _
        have sW : W.heap.size = wr.heap.size + 1 := by rw [eW, size_setCells]; simp
        have rW : W.rangeAt wr.heap.size 0 (Value.string nm :: cs) := by rw [eW]; exact World.rangeAt_setCells_same _ _ _ _ (there_new (by show _ = (Value.string nm :: cs).length; rw [(unhide HH).2.2.2]; rfl))
        have rW' : W.rangeAt b' (off' + k * 9) (Value.string nm' :: ds) := Row8.below (row9 hr' hn0') bW.1
        have vW := VlC.below bW.1 _ _ hv
        have vW' := VlC.below bW.1 _ _ hv'
        obtain ⟨X, eX⟩ : ∃ X, X = (W.alloc (.cells #[Value.string { data := #[] }, Value.int IntKind.i64 0, Value.bool false, Value.int IntKind.i64 0, Value.float FloatKind.f64 0, Value.string { data := #[] }, Value.string { data := #[] }, Value.slice none 0 0, Value.slice none 0 0] 69)).setCells W.heap.size 0 (Value.string nm' :: ds) := ⟨_, rfl⟩
        have bX : Gr W X := by rw [eX]; exact ((Gr.refl _).alloc _).setCells (Nat.le_refl _) _ _
        have rX : X.rangeAt W.heap.size 0 (Value.string nm' :: ds) := by rw [eX]; exact World.rangeAt_setCells_same _ _ _ _ (there_new (by show _ = (Value.string nm' :: ds).length; rw [List.length_cons, d8]; rfl))
        have rX' : X.rangeAt wr.heap.size 0 (Value.string nm :: cs) := Row8.below rW bX.1
        have IH := hide (ih (nm, v) (List.mem_of_getElem? hg) (nm', u) (List.mem_of_getElem? hg') cs ds X (VlC.below bX.1 _ _ vW) (VlC.below bX.1 _ _ vW'))
        have HS := hide (lexG_step (f := ordM) hg hg')
        have EW := hide eW
        have EX := hide eX
        have SW := hide sW
        have JJ := hide (And.intro j1 (And.intro j2 (And.intro (show (Value.string nm' :: ds).toArray.size = 9 by simp [d8]) (show (Value.string nm' :: ds).length = 9 by simp [d8]))))
        have RR := hide (And.intro rW' (And.intro rX rX'))
        clear eW eX sW vW vW' hn0' j1 j2 d8 hv hv' rW hr' hg hg' rW' rX rX'
        go_wp2_with (first
          | (refine wpList_load_mid (by rfl) 69 _ (by rfl) b (off + k * 9) (by rfl) (Value.string nm :: cs) _ hr Try.underlying69 (by rfl) (unhide HH).1 ?_)
          | (refine wpList_store_mid (by rfl) 69 _ _ (by rfl) wr.heap.size 0 (Value.string nm :: cs).toArray (by rfl) (by rfl) (there_new (by rw [(unhide HH).2.2.1]; rfl)) (unhide HH).2.1 h1 ?_; rw [show ((wr.alloc (.cells #[Value.string { data := #[] }, Value.int IntKind.i64 0, Value.bool false, Value.int IntKind.i64 0, Value.float FloatKind.f64 0, Value.string { data := #[] }, Value.string { data := #[] }, Value.slice none 0 0, Value.slice none 0 0] 69)).setCells wr.heap.size 0 (Value.string nm :: cs).toArray.toList) = W from (unhide EW).symm]; clear hr)
          | (refine wpList_load_mid (by rfl) 69 _ (by rfl) b' (off' + k * 9) (by rfl) (Value.string nm' :: ds) _ (unhide RR).1 Try.underlying69 (by rfl) (unhide JJ).1 ?_)
          | (refine wpList_store_mid (by rfl) 69 _ _ (by rfl) W.heap.size 0 (Value.string nm' :: ds).toArray (by rfl) (by rfl) (there_new (by rw [(unhide JJ).2.2.1]; rfl)) (unhide JJ).2.1 g1 ?_; rw [show ((W.alloc (.cells #[Value.string { data := #[] }, Value.int IntKind.i64 0, Value.bool false, Value.int IntKind.i64 0, Value.float FloatKind.f64 0, Value.string { data := #[] }, Value.string { data := #[] }, Value.slice none 0 0, Value.slice none 0 0] 69)).setCells W.heap.size 0 (Value.string nm' :: ds).toArray.toList) = X from (unhide EX).symm])
          | (refine wpList_load_mid (by rfl) 69 _ (by rfl) wr.heap.size 0 (by rfl) (Value.string nm :: cs) _ (unhide RR).2.2 Try.underlying69 (by rfl) (unhide HH).1 ?_)
          | (refine wpList_load_mid (by rfl) 69 _ (by rfl) W.heap.size 0 (by rfl) (Value.string nm' :: ds) _ (unhide RR).2.1 Try.underlying69 (by rfl) (unhide JJ).1 ?_))
        refine (unhide IH).mono ?_
        rintro e w2 ⟨rfl, g2⟩
        have G2 : Gr w w2 := hbk.trans (bW.trans (bX.trans g2))
        by_cases hc : ordM (nm, v) (nm', u) = 0
        · have hc2 := hide hc
          rw [hc]
          clear hc
          go_wp2
          go_roundw
          case rel => exact ⟨k + 1, by omega, by omega, by go_num, G2, (unhide hl).trans ((unhide HS).trans (if_pos (unhide hc2)))⟩
          case measure => simp [intOf]; omega
        · have hc2 := hide hc
          generalize hcv : ordM (nm, v) (nm', u) = cv at *
          have hcv := hide hcv
          go_wp2
          go_ret
          exact ⟨by rw [unhide hl, unhide HS, if_neg (unhide hc2)]; rfl, G2⟩
      · have kb : ¬ (k : Int) < (nB : Int) := by omega
        go_wp2_with (first
          | (refine wpList_load_mid (by rfl) 69 _ (by rfl) b (off + k * 9) (by rfl) (Value.string nm :: cs) _ hr Try.underlying69 (by rfl) (unhide HH).1 ?_)
          | (refine wpList_store_mid (by rfl) 69 _ _ (by rfl) wr.heap.size 0 (Value.string nm :: cs).toArray (by rfl) (by rfl) (there_new (by rw [(unhide HH).2.2.1]; rfl)) (unhide HH).2.1 h1 ?_))
        go_ret
        exact ⟨by rw [unhide hl, lexG_end2 (by rw [unhide lA]; exact hlt) (by rw [unhide lB]; omega)]; rfl, (hbk.alloc _).setCells hbk.1.size _ _⟩
    · have ki : ¬ (k : Int) < (nA : Int) := by omega
      by_cases hlb : k < nB
      · have kb : (nA : Int) < (nB : Int) := by omega
        go_wp2
        go_ret
        exact ⟨by rw [unhide hl, lexG_end1 (by rw [unhide lA]; omega) (by rw [unhide lB]; exact hlb)]; rfl, hbk⟩
      · have kb : ¬ (nA : Int) < (nB : Int) := by omega
        go_wp2
        go_ret
        exact ⟨by rw [unhide hl, lexG_end0 (by rw [unhide lA]; omega) (by rw [unhide lB]; omega)]; rfl, hbk⟩
end Go.Proofs.Ythpcpminikmcbaa.og
namespace Go.Proofs.Ythpcpminikmcbaa.vl
open Go.ChangeShapes Go.WideShapes Go.ChangeAt Go.RowKit
open stp (St Pth St3)
set_option linter.unusedVariables false
set_option linter.unusedSimpArgs false
/-- the number of the child to which a step leads -/
def chI : Vl → St → Option Nat
  | .mk kd b n f tx ty its fls, s => if s.it = true then (if kd = 5 ∧ 0 ≤ s.ix ∧ s.ix < its.list.length then some s.ix.toNat else none) else (if kd = 6 then fls.list.findIdx? (fun q => decide (q.1 = s.nm)) else none)
set_option maxHeartbeats 6000000 in
set_option maxRecDepth 6000 in
theorem child_item (b o : Nat) (kd : Int) (ai : Option Addr) (n c : Nat) (nm : ByteArray) (ix : Int) (w : World) (hb : b < w.heap.size) (x0 : w.cell? ⟨b, o, none⟩ = some (.int .i64 kd)) (x6 : w.cell? ⟨b, o + 6, none⟩ = some (.slice ai n c)) (hn : n ≤ 9223372036854775807) (ha : n = 0 ∨ ∃ p off, ai = some ⟨p, off, none⟩) :
    Calls Try.prog 57 #[.pointer (some ⟨b, o, none⟩), .agg #[.string nm, .int .i64 ix, .bool true]] w fun e w' => Below w.heap.size w w' ∧ ((kd = 5 ∧ 0 ≤ ix ∧ ix < n ∧ ∃ p off, ai = some ⟨p, off, none⟩ ∧ e = .returned (.pointer (some ⟨p, off + ix.toNat * 8, none⟩))) ∨ (¬ (kd = 5 ∧ 0 ≤ ix ∧ ix < n) ∧ e = .returned (.pointer none))) := by
  obtain ⟨W, eW⟩ : ∃ W, W = w.alloc (.cells #[.string nm, .int .i64 ix, .bool true] 34) := ⟨_, rfl⟩
  have y0 : W.cell? ⟨b, o, none⟩ = some (.int .i64 kd) := by rw [eW]; exact (World.cell?_alloc_past _ _ _ hb).trans x0
  have y6 : W.cell? ⟨b, o + 6, none⟩ = some (.slice ai n c) := by rw [eW]; exact (World.cell?_alloc_past _ _ _ hb).trans x6
  have s1 : W.cell? ⟨w.heap.size, 1, none⟩ = some (.int .i64 ix) := by rw [eW]; simp
  have bW : Below w.heap.size w W := by rw [eW]; exact (Below.refl _ _).alloc (Nat.le_refl _) _
  have EW := hide eW
  clear x0 x6 eW
  by_cases h5 : kd = 5
  · subst h5
    by_cases hi0 : ix < 0
    · go_enter Try.func57, Try.ntmps57
      go_wp2_with fail
      rw [← unhide EW]
      clear EW
      have hS0 : ({ W with drawn := W.drawn + 1 } : World).cell? ⟨b, o, none⟩ = some (.int .i64 5) ∧ ({ W with drawn := W.drawn + 1 } : World).cell? ⟨b, o + 6, none⟩ = some (.slice ai n c) ∧ ({ W with drawn := W.drawn + 1 } : World).cell? ⟨w.heap.size, 1, none⟩ = some (.int .i64 ix) := ⟨y0, y6, s1⟩
      clear y0 y6 s1
      refine wp_region_noPanic ?_
      refine wp_region_held (S := fun w' => w'.cell? ⟨b, o, none⟩ = some (.int .i64 5) ∧ w'.cell? ⟨b, o + 6, none⟩ = some (.slice ai n c) ∧ w'.cell? ⟨w.heap.size, 1, none⟩ = some (.int .i64 ix)) mixed ?_
      refine wpAnyH_take (i := 0) (v := ?v1) rfl (by kernel_rfl) (by kernel_rfl) (by kernel_rfl) (fun _ _ _ h => h) (Or.inl ⟨by rfl, ?hy1⟩) hS0 ?_
      case hy1 => (intro w' hw'; obtain ⟨c0, c6, c1⟩ := hw'; go_simp; try with_reducible rfl)
      simp only [List.getElem_toArray, List.getElem_cons_zero, List.getElem_cons_succ, Act.put, List.setIfInBounds_toArray, List.set_cons_zero, List.set_cons_succ]
      refine wpAnyH_take (i := 1) (v := ?v2) rfl (by kernel_rfl) (by kernel_rfl) (by kernel_rfl) (fun _ _ _ h => h) (Or.inl ⟨by rfl, ?hy2⟩) hS0 ?_
      case hy2 => (intro w' hw'; obtain ⟨c0, c6, c1⟩ := hw'; go_simp; try with_reducible rfl)
      simp only [List.getElem_toArray, List.getElem_cons_zero, List.getElem_cons_succ, Act.put, List.setIfInBounds_toArray, List.set_cons_zero, List.set_cons_succ]
      refine wpAnyH_take (i := 2) (v := ?v3) rfl (by kernel_rfl) (by kernel_rfl) (by kernel_rfl) (fun _ _ _ h => h) (Or.inl ⟨by rfl, ?hy3⟩) hS0 ?_
      case hy3 => (intro w' hw'; obtain ⟨c0, c6, c1⟩ := hw'; go_simp; try with_reducible rfl)
      simp only [List.getElem_toArray, List.getElem_cons_zero, List.getElem_cons_succ, Act.put, List.setIfInBounds_toArray, List.set_cons_zero, List.set_cons_succ]
      refine wpAnyH_take (i := 3) (v := ?v4) rfl (by kernel_rfl) (by kernel_rfl) (by kernel_rfl) (fun _ _ _ h => h) (Or.inl ⟨by rfl, ?hy4⟩) hS0 ?_
      case hy4 => (intro w' hw'; obtain ⟨c0, c6, c1⟩ := hw'; go_simp; try with_reducible rfl)
      simp only [List.getElem_toArray, List.getElem_cons_zero, List.getElem_cons_succ, Act.put, List.setIfInBounds_toArray, List.set_cons_zero, List.set_cons_succ]
      refine wpAnyH_take (i := 4) (v := ?v5) rfl (by kernel_rfl) (by kernel_rfl) (by kernel_rfl) (fun _ _ _ h => h) (Or.inl ⟨by rfl, ?hy5⟩) hS0 ?_
      case hy5 => (intro w' hw'; obtain ⟨c0, c6, c1⟩ := hw'; go_simp; try with_reducible rfl)
      simp only [List.getElem_toArray, List.getElem_cons_zero, List.getElem_cons_succ, Act.put, List.setIfInBounds_toArray, List.set_cons_zero, List.set_cons_succ]
      refine wpAnyH_take (i := 5) (v := ?v6) rfl (by kernel_rfl) (by kernel_rfl) (by kernel_rfl) (fun _ _ _ h => h) (Or.inl ⟨by rfl, ?hy6⟩) hS0 ?_
      case hy6 => (intro w' hw'; obtain ⟨c0, c6, c1⟩ := hw'; go_simp; try with_reducible rfl)
      simp only [List.getElem_toArray, List.getElem_cons_zero, List.getElem_cons_succ, Act.put, List.setIfInBounds_toArray, List.set_cons_zero, List.set_cons_succ]
      refine wpAnyH_take (i := 6) (v := ?v7) rfl (by kernel_rfl) (by kernel_rfl) (by kernel_rfl) (fun _ _ _ h => h) (Or.inl ⟨by rfl, ?hy7⟩) hS0 ?_
      case hy7 => (intro w' hw'; obtain ⟨c0, c6, c1⟩ := hw'; go_simp; try with_reducible rfl)
      simp only [List.getElem_toArray, List.getElem_cons_zero, List.getElem_cons_succ, Act.put, List.setIfInBounds_toArray, List.set_cons_zero, List.set_cons_succ]
      refine wpAnyH_take (i := 7) (v := ?v8) rfl (by kernel_rfl) (by kernel_rfl) (by kernel_rfl) (fun _ _ _ h => h) (Or.inl ⟨by rfl, ?hy8⟩) hS0 ?_
      case hy8 => (intro w' hw'; obtain ⟨c0, c6, c1⟩ := hw'; go_simp; try with_reducible rfl)
      simp only [List.getElem_toArray, List.getElem_cons_zero, List.getElem_cons_succ, Act.put, List.setIfInBounds_toArray, List.set_cons_zero, List.set_cons_succ]
      refine wpAnyH_take (i := 8) (v := ?v9) rfl (by kernel_rfl) (by kernel_rfl) (by kernel_rfl) (fun _ _ _ h => h) (Or.inl ⟨by rfl, ?hy9⟩) hS0 ?_
      case hy9 => (intro w' hw'; obtain ⟨c0, c6, c1⟩ := hw'; go_simp; try with_reducible rfl)
      simp only [List.getElem_toArray, List.getElem_cons_zero, List.getElem_cons_succ, Act.put, List.setIfInBounds_toArray, List.set_cons_zero, List.set_cons_succ]
      refine wpAnyH_take (i := 9) (v := ?v10) rfl (by kernel_rfl) (by kernel_rfl) (by kernel_rfl) (fun _ _ _ h => h) (Or.inl ⟨by rfl, ?hy10⟩) hS0 ?_
      case hy10 => (intro w' hw'; obtain ⟨c0, c6, c1⟩ := hw'; go_simp; try with_reducible rfl)
      simp only [List.getElem_toArray, List.getElem_cons_zero, List.getElem_cons_succ, Act.put, List.setIfInBounds_toArray, List.set_cons_zero, List.set_cons_succ]
      refine wpAnyH_take (i := 10) (v := ?v11) rfl (by kernel_rfl) (by kernel_rfl) (by kernel_rfl) (fun _ _ _ h => h) (Or.inl ⟨by rfl, ?hy11⟩) hS0 ?_
      case hy11 => (intro w' hw'; obtain ⟨c0, c6, c1⟩ := hw'; go_simp; try with_reducible rfl)
      simp only [List.getElem_toArray, List.getElem_cons_zero, List.getElem_cons_succ, Act.put, List.setIfInBounds_toArray, List.set_cons_zero, List.set_cons_succ]
      refine wpAnyH_take (i := 11) (v := undef) rfl (by kernel_rfl) (by kernel_rfl) (by kernel_rfl) (fun _ _ _ h => h) (Or.inr ⟨by rfl, rfl⟩) hS0 ?_
      simp only [List.getElem_toArray, List.getElem_cons_zero, List.getElem_cons_succ, Act.put, List.setIfInBounds_toArray, List.set_cons_zero, List.set_cons_succ]
      refine wpAnyH_take (i := 12) (v := undef) rfl (by kernel_rfl) (by kernel_rfl) (by kernel_rfl) (fun _ _ _ h => h) (Or.inr ⟨by rfl, rfl⟩) hS0 ?_
      simp only [List.getElem_toArray, List.getElem_cons_zero, List.getElem_cons_succ, Act.put, List.setIfInBounds_toArray, List.set_cons_zero, List.set_cons_succ]
      refine wpAnyH_take (i := 13) (v := undef) rfl (by kernel_rfl) (by kernel_rfl) (by kernel_rfl) (fun _ _ _ h => h) (Or.inr ⟨by rfl, rfl⟩) hS0 ?_
      simp only [List.getElem_toArray, List.getElem_cons_zero, List.getElem_cons_succ, Act.put, List.setIfInBounds_toArray, List.set_cons_zero, List.set_cons_succ]
      refine wpAnyH_take (i := 14) (v := undef) rfl (by kernel_rfl) (by kernel_rfl) (by kernel_rfl) (fun _ _ _ h => h) (Or.inr ⟨by rfl, rfl⟩) hS0 ?_
      simp only [List.getElem_toArray, List.getElem_cons_zero, List.getElem_cons_succ, Act.put, List.setIfInBounds_toArray, List.set_cons_zero, List.set_cons_succ]
      refine wpAnyH_take (i := 15) (v := undef) rfl (by kernel_rfl) (by kernel_rfl) (by kernel_rfl) (fun _ _ _ h => h) (Or.inr ⟨by rfl, rfl⟩) hS0 ?_
      simp only [List.getElem_toArray, List.getElem_cons_zero, List.getElem_cons_succ, Act.put, List.setIfInBounds_toArray, List.set_cons_zero, List.set_cons_succ]
      refine wpAnyH_take (i := 16) (v := undef) rfl (by kernel_rfl) (by kernel_rfl) (by kernel_rfl) (fun _ _ _ h => h) (Or.inr ⟨by rfl, rfl⟩) hS0 ?_
      simp only [List.getElem_toArray, List.getElem_cons_zero, List.getElem_cons_succ, Act.put, List.setIfInBounds_toArray, List.set_cons_zero, List.set_cons_succ]
      refine wpAnyH_take (i := 17) (v := undef) rfl (by kernel_rfl) (by kernel_rfl) (by kernel_rfl) (fun _ _ _ h => h) (Or.inr ⟨by rfl, rfl⟩) hS0 ?_
      simp only [List.getElem_toArray, List.getElem_cons_zero, List.getElem_cons_succ, Act.put, List.setIfInBounds_toArray, List.set_cons_zero, List.set_cons_succ]
      refine wpAnyH_take (i := 18) (v := undef) rfl (by kernel_rfl) (by kernel_rfl) (by kernel_rfl) (fun _ _ _ h => h) (Or.inr ⟨by rfl, rfl⟩) hS0 ?_
      simp only [List.getElem_toArray, List.getElem_cons_zero, List.getElem_cons_succ, Act.put, List.setIfInBounds_toArray, List.set_cons_zero, List.set_cons_succ]
      refine wpAnyH_take (i := 19) (v := ?v12) rfl (by kernel_rfl) (by kernel_rfl) (by kernel_rfl) (fun _ _ _ h => h) (Or.inl ⟨by rfl, ?hy12⟩) hS0 ?_
      case hy12 => (intro w' hw'; obtain ⟨c0, c6, c1⟩ := hw'; go_simp; try with_reducible rfl)
      simp only [List.getElem_toArray, List.getElem_cons_zero, List.getElem_cons_succ, Act.put, List.setIfInBounds_toArray, List.set_cons_zero, List.set_cons_succ]
      refine wpAnyH_done (by kernel_rfl) ?_ _; refine NoPanic.normal ?_
      have bW1 : Below w.heap.size w { W with drawn := W.drawn + 1 } := bW.drew
      generalize ({ W with drawn := W.drawn + 1 } : World) = W1 at *
      go_wp2
      go_ret
      exact ⟨bW1, .inr ⟨by omega, rfl⟩⟩
    · have hd0 : decide (ix < 0) = false := by simp; omega
      by_cases hin : ix < n
      · have hd1 : decide ((n : Int) ≤ ix) = false := by simp; omega
        obtain ⟨p, off, rfl⟩ : ∃ p off, ai = some ⟨p, off, none⟩ := by
          rcases ha with h | h
          · omega
          · exact h
        obtain ⟨k, rfl⟩ : ∃ k : Nat, ix = k := ⟨ix.toNat, by omega⟩
        have hk0 : (0 : Int) ≤ (k : Int) := by omega
        go_enter Try.func57, Try.ntmps57
        go_wp2_with fail
        rw [← unhide EW]
        clear EW
        have hS0 : ({ W with drawn := W.drawn + 1 } : World).cell? ⟨b, o, none⟩ = some (.int .i64 5) ∧ ({ W with drawn := W.drawn + 1 } : World).cell? ⟨b, o + 6, none⟩ = some (.slice (some ⟨p, off, none⟩) n c) ∧ ({ W with drawn := W.drawn + 1 } : World).cell? ⟨w.heap.size, 1, none⟩ = some (.int .i64 k) := ⟨y0, y6, s1⟩
        clear y0 y6 s1
        refine wp_region_noPanic ?_
        refine wp_region_held (S := fun w' => w'.cell? ⟨b, o, none⟩ = some (.int .i64 5) ∧ w'.cell? ⟨b, o + 6, none⟩ = some (.slice (some ⟨p, off, none⟩) n c) ∧ w'.cell? ⟨w.heap.size, 1, none⟩ = some (.int .i64 k)) mixed ?_
        refine wpAnyH_take (i := 0) (v := ?v13) rfl (by kernel_rfl) (by kernel_rfl) (by kernel_rfl) (fun _ _ _ h => h) (Or.inl ⟨by rfl, ?hy13⟩) hS0 ?_
        case hy13 => (intro w' hw'; obtain ⟨c0, c6, c1⟩ := hw'; go_simp; try with_reducible rfl)
        simp only [List.getElem_toArray, List.getElem_cons_zero, List.getElem_cons_succ, Act.put, List.setIfInBounds_toArray, List.set_cons_zero, List.set_cons_succ]
        refine wpAnyH_take (i := 1) (v := ?v14) rfl (by kernel_rfl) (by kernel_rfl) (by kernel_rfl) (fun _ _ _ h => h) (Or.inl ⟨by rfl, ?hy14⟩) hS0 ?_
        case hy14 => (intro w' hw'; obtain ⟨c0, c6, c1⟩ := hw'; go_simp; try with_reducible rfl)
        simp only [List.getElem_toArray, List.getElem_cons_zero, List.getElem_cons_succ, Act.put, List.setIfInBounds_toArray, List.set_cons_zero, List.set_cons_succ]
        refine wpAnyH_take (i := 2) (v := ?v15) rfl (by kernel_rfl) (by kernel_rfl) (by kernel_rfl) (fun _ _ _ h => h) (Or.inl ⟨by rfl, ?hy15⟩) hS0 ?_
        case hy15 => (intro w' hw'; obtain ⟨c0, c6, c1⟩ := hw'; go_simp; try with_reducible rfl)
        simp only [List.getElem_toArray, List.getElem_cons_zero, List.getElem_cons_succ, Act.put, List.setIfInBounds_toArray, List.set_cons_zero, List.set_cons_succ]
        refine wpAnyH_take (i := 3) (v := ?v16) rfl (by kernel_rfl) (by kernel_rfl) (by kernel_rfl) (fun _ _ _ h => h) (Or.inl ⟨by rfl, ?hy16⟩) hS0 ?_
        case hy16 => (intro w' hw'; obtain ⟨c0, c6, c1⟩ := hw'; go_simp; try with_reducible rfl)
        simp only [List.getElem_toArray, List.getElem_cons_zero, List.getElem_cons_succ, Act.put, List.setIfInBounds_toArray, List.set_cons_zero, List.set_cons_succ]
        refine wpAnyH_take (i := 4) (v := ?v17) rfl (by kernel_rfl) (by kernel_rfl) (by kernel_rfl) (fun _ _ _ h => h) (Or.inl ⟨by rfl, ?hy17⟩) hS0 ?_
        case hy17 => (intro w' hw'; obtain ⟨c0, c6, c1⟩ := hw'; go_simp; try with_reducible rfl)
        simp only [List.getElem_toArray, List.getElem_cons_zero, List.getElem_cons_succ, Act.put, List.setIfInBounds_toArray, List.set_cons_zero, List.set_cons_succ]
        refine wpAnyH_take (i := 5) (v := ?v18) rfl (by kernel_rfl) (by kernel_rfl) (by kernel_rfl) (fun _ _ _ h => h) (Or.inl ⟨by rfl, ?hy18⟩) hS0 ?_
        case hy18 => (intro w' hw'; obtain ⟨c0, c6, c1⟩ := hw'; go_simp; try with_reducible rfl)
        simp only [List.getElem_toArray, List.getElem_cons_zero, List.getElem_cons_succ, Act.put, List.setIfInBounds_toArray, List.set_cons_zero, List.set_cons_succ]
        refine wpAnyH_take (i := 6) (v := ?v19) rfl (by kernel_rfl) (by kernel_rfl) (by kernel_rfl) (fun _ _ _ h => h) (Or.inl ⟨by rfl, ?hy19⟩) hS0 ?_
        case hy19 => (intro w' hw'; obtain ⟨c0, c6, c1⟩ := hw'; go_simp; try with_reducible rfl)
        simp only [List.getElem_toArray, List.getElem_cons_zero, List.getElem_cons_succ, Act.put, List.setIfInBounds_toArray, List.set_cons_zero, List.set_cons_succ]
        refine wpAnyH_take (i := 7) (v := ?v20) rfl (by kernel_rfl) (by kernel_rfl) (by kernel_rfl) (fun _ _ _ h => h) (Or.inl ⟨by rfl, ?hy20⟩) hS0 ?_
        case hy20 => (intro w' hw'; obtain ⟨c0, c6, c1⟩ := hw'; go_simp; try with_reducible rfl)
        simp only [List.getElem_toArray, List.getElem_cons_zero, List.getElem_cons_succ, Act.put, List.setIfInBounds_toArray, List.set_cons_zero, List.set_cons_succ]
        refine wpAnyH_take (i := 8) (v := ?v21) rfl (by kernel_rfl) (by kernel_rfl) (by kernel_rfl) (fun _ _ _ h => h) (Or.inl ⟨by rfl, ?hy21⟩) hS0 ?_
        case hy21 => (intro w' hw'; obtain ⟨c0, c6, c1⟩ := hw'; go_simp; try with_reducible rfl)
        simp only [List.getElem_toArray, List.getElem_cons_zero, List.getElem_cons_succ, Act.put, List.setIfInBounds_toArray, List.set_cons_zero, List.set_cons_succ]
        refine wpAnyH_take (i := 9) (v := ?v22) rfl (by kernel_rfl) (by kernel_rfl) (by kernel_rfl) (fun _ _ _ h => h) (Or.inl ⟨by rfl, ?hy22⟩) hS0 ?_
        case hy22 => (intro w' hw'; obtain ⟨c0, c6, c1⟩ := hw'; go_simp; try with_reducible rfl)
        simp only [List.getElem_toArray, List.getElem_cons_zero, List.getElem_cons_succ, Act.put, List.setIfInBounds_toArray, List.set_cons_zero, List.set_cons_succ]
        refine wpAnyH_take (i := 10) (v := ?v23) rfl (by kernel_rfl) (by kernel_rfl) (by kernel_rfl) (fun _ _ _ h => h) (Or.inl ⟨by rfl, ?hy23⟩) hS0 ?_
        case hy23 => (intro w' hw'; obtain ⟨c0, c6, c1⟩ := hw'; go_simp; try with_reducible rfl)
        simp only [List.getElem_toArray, List.getElem_cons_zero, List.getElem_cons_succ, Act.put, List.setIfInBounds_toArray, List.set_cons_zero, List.set_cons_succ]
        refine wpAnyH_take (i := 11) (v := ?v24) rfl (by kernel_rfl) (by kernel_rfl) (by kernel_rfl) (fun _ _ _ h => h) (Or.inl ⟨by rfl, ?hy24⟩) hS0 ?_
        case hy24 => (intro w' hw'; obtain ⟨c0, c6, c1⟩ := hw'; go_simp; try with_reducible rfl)
        simp only [List.getElem_toArray, List.getElem_cons_zero, List.getElem_cons_succ, Act.put, List.setIfInBounds_toArray, List.set_cons_zero, List.set_cons_succ]
        refine wpAnyH_take (i := 12) (v := ?v25) rfl (by kernel_rfl) (by kernel_rfl) (by kernel_rfl) (fun _ _ _ h => h) (Or.inl ⟨by rfl, ?hy25⟩) hS0 ?_
        case hy25 => (intro w' hw'; obtain ⟨c0, c6, c1⟩ := hw'; go_simp; try with_reducible rfl)
        simp only [List.getElem_toArray, List.getElem_cons_zero, List.getElem_cons_succ, Act.put, List.setIfInBounds_toArray, List.set_cons_zero, List.set_cons_succ]
        refine wpAnyH_take (i := 13) (v := ?v26) rfl (by kernel_rfl) (by kernel_rfl) (by kernel_rfl) (fun _ _ _ h => h) (Or.inl ⟨by rfl, ?hy26⟩) hS0 ?_
        case hy26 => (intro w' hw'; obtain ⟨c0, c6, c1⟩ := hw'; go_simp; try with_reducible rfl)
        simp only [List.getElem_toArray, List.getElem_cons_zero, List.getElem_cons_succ, Act.put, List.setIfInBounds_toArray, List.set_cons_zero, List.set_cons_succ]
        refine wpAnyH_take (i := 14) (v := ?v27) rfl (by kernel_rfl) (by kernel_rfl) (by kernel_rfl) (fun _ _ _ h => h) (Or.inl ⟨by rfl, ?hy27⟩) hS0 ?_
        case hy27 => (intro w' hw'; obtain ⟨c0, c6, c1⟩ := hw'; go_simp; try with_reducible rfl)
        simp only [List.getElem_toArray, List.getElem_cons_zero, List.getElem_cons_succ, Act.put, List.setIfInBounds_toArray, List.set_cons_zero, List.set_cons_succ]
        refine wpAnyH_take (i := 15) (v := ?v28) rfl (by kernel_rfl) (by kernel_rfl) (by kernel_rfl) (fun _ _ _ h => h) (Or.inl ⟨by rfl, ?hy28⟩) hS0 ?_
        case hy28 => (intro w' hw'; obtain ⟨c0, c6, c1⟩ := hw'; go_simp; try with_reducible rfl)
        simp only [List.getElem_toArray, List.getElem_cons_zero, List.getElem_cons_succ, Act.put, List.setIfInBounds_toArray, List.set_cons_zero, List.set_cons_succ]
        refine wpAnyH_take (i := 16) (v := ?v29) rfl (by kernel_rfl) (by kernel_rfl) (by kernel_rfl) (fun _ _ _ h => h) (Or.inl ⟨by rfl, ?hy29⟩) hS0 ?_
        case hy29 => (intro w' hw'; obtain ⟨c0, c6, c1⟩ := hw'; go_simp; try with_reducible rfl)
        simp only [List.getElem_toArray, List.getElem_cons_zero, List.getElem_cons_succ, Act.put, List.setIfInBounds_toArray, List.set_cons_zero, List.set_cons_succ]
        refine wpAnyH_take (i := 17) (v := ?v30) rfl (by kernel_rfl) (by kernel_rfl) (by kernel_rfl) (fun _ _ _ h => h) (Or.inl ⟨by rfl, ?hy30⟩) hS0 ?_
        case hy30 => (intro w' hw'; obtain ⟨c0, c6, c1⟩ := hw'; go_simp; try with_reducible rfl)
        simp only [List.getElem_toArray, List.getElem_cons_zero, List.getElem_cons_succ, Act.put, List.setIfInBounds_toArray, List.set_cons_zero, List.set_cons_succ]
        refine wpAnyH_take (i := 18) (v := ?v31) rfl (by kernel_rfl) (by kernel_rfl) (by kernel_rfl) (fun _ _ _ h => h) (Or.inl ⟨by rfl, ?hy31⟩) hS0 ?_
        case hy31 => (intro w' hw'; obtain ⟨c0, c6, c1⟩ := hw'; go_simp; try with_reducible rfl)
        simp only [List.getElem_toArray, List.getElem_cons_zero, List.getElem_cons_succ, Act.put, List.setIfInBounds_toArray, List.set_cons_zero, List.set_cons_succ]
        refine wpAnyH_take (i := 19) (v := ?v32) rfl (by kernel_rfl) (by kernel_rfl) (by kernel_rfl) (fun _ _ _ h => h) (Or.inl ⟨by rfl, ?hy32⟩) hS0 ?_
        case hy32 => (intro w' hw'; obtain ⟨c0, c6, c1⟩ := hw'; go_simp; try with_reducible rfl)
        simp only [List.getElem_toArray, List.getElem_cons_zero, List.getElem_cons_succ, Act.put, List.setIfInBounds_toArray, List.set_cons_zero, List.set_cons_succ]
        refine wpAnyH_done (by kernel_rfl) ?_ _; refine NoPanic.normal ?_
        have bW1 : Below w.heap.size w { W with drawn := W.drawn + 1 } := bW.drew
        generalize ({ W with drawn := W.drawn + 1 } : World) = W1 at *
        go_wp2_with fail
        obtain ⟨y0, y6, s1⟩ := hS0
        have hS0 : ({ W1 with drawn := W1.drawn + 1 } : World).cell? ⟨b, o + 6, none⟩ = some (.slice (some ⟨p, off, none⟩) n c) ∧ ({ W1 with drawn := W1.drawn + 1 } : World).cell? ⟨w.heap.size, 1, none⟩ = some (.int .i64 k) := ⟨y6, s1⟩
        clear y0 y6 s1
        refine wp_region_noPanic ?_
        refine wp_region_held (S := fun w' => w'.cell? ⟨b, o + 6, none⟩ = some (.slice (some ⟨p, off, none⟩) n c) ∧ w'.cell? ⟨w.heap.size, 1, none⟩ = some (.int .i64 k)) mixed ?_
        refine wpAnyH_take (i := 0) (v := ?v33) rfl (by kernel_rfl) (by kernel_rfl) (by kernel_rfl) (fun _ _ _ h => h) (Or.inl ⟨by rfl, ?hy33⟩) hS0 ?_
        case hy33 => (intro w' hw'; obtain ⟨c6, c1⟩ := hw'; go_simp; try with_reducible rfl)
        simp only [List.getElem_toArray, List.getElem_cons_zero, List.getElem_cons_succ, Act.put, List.setIfInBounds_toArray, List.set_cons_zero, List.set_cons_succ]
        refine wpAnyH_take (i := 1) (v := ?v34) rfl (by kernel_rfl) (by kernel_rfl) (by kernel_rfl) (fun _ _ _ h => h) (Or.inl ⟨by rfl, ?hy34⟩) hS0 ?_
        case hy34 => (intro w' hw'; obtain ⟨c6, c1⟩ := hw'; go_simp; try with_reducible rfl)
        simp only [List.getElem_toArray, List.getElem_cons_zero, List.getElem_cons_succ, Act.put, List.setIfInBounds_toArray, List.set_cons_zero, List.set_cons_succ]
        refine wpAnyH_take (i := 2) (v := ?v35) rfl (by kernel_rfl) (by kernel_rfl) (by kernel_rfl) (fun _ _ _ h => h) (Or.inl ⟨by rfl, ?hy35⟩) hS0 ?_
        case hy35 => (intro w' hw'; obtain ⟨c6, c1⟩ := hw'; go_simp; try with_reducible rfl)
        simp only [List.getElem_toArray, List.getElem_cons_zero, List.getElem_cons_succ, Act.put, List.setIfInBounds_toArray, List.set_cons_zero, List.set_cons_succ]
        refine wpAnyH_take (i := 3) (v := ?v36) rfl (by kernel_rfl) (by kernel_rfl) (by kernel_rfl) (fun _ _ _ h => h) (Or.inl ⟨by rfl, ?hy36⟩) hS0 ?_
        case hy36 => (intro w' hw'; obtain ⟨c6, c1⟩ := hw'; go_simp; try with_reducible rfl)
        simp only [List.getElem_toArray, List.getElem_cons_zero, List.getElem_cons_succ, Act.put, List.setIfInBounds_toArray, List.set_cons_zero, List.set_cons_succ]
        refine wpAnyH_take (i := 4) (v := ?v37) rfl (by kernel_rfl) (by kernel_rfl) (by kernel_rfl) (fun _ _ _ h => h) (Or.inl ⟨by rfl, ?hy37⟩) hS0 ?_
        case hy37 => (intro w' hw'; obtain ⟨c6, c1⟩ := hw'; go_simp; try with_reducible rfl)
        simp only [List.getElem_toArray, List.getElem_cons_zero, List.getElem_cons_succ, Act.put, List.setIfInBounds_toArray, List.set_cons_zero, List.set_cons_succ]
        refine wpAnyH_take (i := 5) (v := ?v38) rfl (by kernel_rfl) (by kernel_rfl) (by kernel_rfl) (fun _ _ _ h => h) (Or.inl ⟨by rfl, ?hy38⟩) hS0 ?_
        case hy38 => (intro w' hw'; obtain ⟨c6, c1⟩ := hw'; go_simp; try with_reducible rfl)
        simp only [List.getElem_toArray, List.getElem_cons_zero, List.getElem_cons_succ, Act.put, List.setIfInBounds_toArray, List.set_cons_zero, List.set_cons_succ]
        refine wpAnyH_take (i := 6) (v := ?v39) rfl (by kernel_rfl) (by kernel_rfl) (by kernel_rfl) (fun _ _ _ h => h) (Or.inl ⟨by rfl, ?hy39⟩) hS0 ?_
        case hy39 => (intro w' hw'; obtain ⟨c6, c1⟩ := hw'; go_simp; try with_reducible rfl)
        simp only [List.getElem_toArray, List.getElem_cons_zero, List.getElem_cons_succ, Act.put, List.setIfInBounds_toArray, List.set_cons_zero, List.set_cons_succ]
        refine wpAnyH_take (i := 7) (v := ?v40) rfl (by kernel_rfl) (by kernel_rfl) (by kernel_rfl) (fun _ _ _ h => h) (Or.inl ⟨by rfl, ?hy40⟩) hS0 ?_
        case hy40 => (intro w' hw'; obtain ⟨c6, c1⟩ := hw'; go_simp; try with_reducible rfl)
        simp only [List.getElem_toArray, List.getElem_cons_zero, List.getElem_cons_succ, Act.put, List.setIfInBounds_toArray, List.set_cons_zero, List.set_cons_succ]
        refine wpAnyH_done (by kernel_rfl) ?_ _; refine NoPanic.normal ?_
        have bW2 : Below w.heap.size w { W1 with drawn := W1.drawn + 1 } := bW1.drew
        generalize ({ W1 with drawn := W1.drawn + 1 } : World) = W2 at *
        go_wp2
        go_ret
        exact ⟨bW2, .inl ⟨(by first | rfl | trivial), hk0, hin, p, off, rfl, by simp⟩⟩
      · have hd1 : decide ((n : Int) ≤ ix) = true := by simp; omega
        go_enter Try.func57, Try.ntmps57
        go_wp2_with fail
        rw [← unhide EW]
        clear EW
        have hS0 : ({ W with drawn := W.drawn + 1 } : World).cell? ⟨b, o, none⟩ = some (.int .i64 5) ∧ ({ W with drawn := W.drawn + 1 } : World).cell? ⟨b, o + 6, none⟩ = some (.slice ai n c) ∧ ({ W with drawn := W.drawn + 1 } : World).cell? ⟨w.heap.size, 1, none⟩ = some (.int .i64 ix) := ⟨y0, y6, s1⟩
        clear y0 y6 s1
        refine wp_region_noPanic ?_
        refine wp_region_held (S := fun w' => w'.cell? ⟨b, o, none⟩ = some (.int .i64 5) ∧ w'.cell? ⟨b, o + 6, none⟩ = some (.slice ai n c) ∧ w'.cell? ⟨w.heap.size, 1, none⟩ = some (.int .i64 ix)) mixed ?_
        refine wpAnyH_take (i := 0) (v := ?v41) rfl (by kernel_rfl) (by kernel_rfl) (by kernel_rfl) (fun _ _ _ h => h) (Or.inl ⟨by rfl, ?hy41⟩) hS0 ?_
        case hy41 => (intro w' hw'; obtain ⟨c0, c6, c1⟩ := hw'; go_simp; try with_reducible rfl)
        simp only [List.getElem_toArray, List.getElem_cons_zero, List.getElem_cons_succ, Act.put, List.setIfInBounds_toArray, List.set_cons_zero, List.set_cons_succ]
        refine wpAnyH_take (i := 1) (v := ?v42) rfl (by kernel_rfl) (by kernel_rfl) (by kernel_rfl) (fun _ _ _ h => h) (Or.inl ⟨by rfl, ?hy42⟩) hS0 ?_
        case hy42 => (intro w' hw'; obtain ⟨c0, c6, c1⟩ := hw'; go_simp; try with_reducible rfl)
        simp only [List.getElem_toArray, List.getElem_cons_zero, List.getElem_cons_succ, Act.put, List.setIfInBounds_toArray, List.set_cons_zero, List.set_cons_succ]
        refine wpAnyH_take (i := 2) (v := ?v43) rfl (by kernel_rfl) (by kernel_rfl) (by kernel_rfl) (fun _ _ _ h => h) (Or.inl ⟨by rfl, ?hy43⟩) hS0 ?_
        case hy43 => (intro w' hw'; obtain ⟨c0, c6, c1⟩ := hw'; go_simp; try with_reducible rfl)
        simp only [List.getElem_toArray, List.getElem_cons_zero, List.getElem_cons_succ, Act.put, List.setIfInBounds_toArray, List.set_cons_zero, List.set_cons_succ]
        refine wpAnyH_take (i := 3) (v := ?v44) rfl (by kernel_rfl) (by kernel_rfl) (by kernel_rfl) (fun _ _ _ h => h) (Or.inl ⟨by rfl, ?hy44⟩) hS0 ?_
        case hy44 => (intro w' hw'; obtain ⟨c0, c6, c1⟩ := hw'; go_simp; try with_reducible rfl)
        simp only [List.getElem_toArray, List.getElem_cons_zero, List.getElem_cons_succ, Act.put, List.setIfInBounds_toArray, List.set_cons_zero, List.set_cons_succ]
        refine wpAnyH_take (i := 4) (v := ?v45) rfl (by kernel_rfl) (by kernel_rfl) (by kernel_rfl) (fun _ _ _ h => h) (Or.inl ⟨by rfl, ?hy45⟩) hS0 ?_
        case hy45 => (intro w' hw'; obtain ⟨c0, c6, c1⟩ := hw'; go_simp; try with_reducible rfl)
        simp only [List.getElem_toArray, List.getElem_cons_zero, List.getElem_cons_succ, Act.put, List.setIfInBounds_toArray, List.set_cons_zero, List.set_cons_succ]
        refine wpAnyH_take (i := 5) (v := ?v46) rfl (by kernel_rfl) (by kernel_rfl) (by kernel_rfl) (fun _ _ _ h => h) (Or.inl ⟨by rfl, ?hy46⟩) hS0 ?_
        case hy46 => (intro w' hw'; obtain ⟨c0, c6, c1⟩ := hw'; go_simp; try with_reducible rfl)
        simp only [List.getElem_toArray, List.getElem_cons_zero, List.getElem_cons_succ, Act.put, List.setIfInBounds_toArray, List.set_cons_zero, List.set_cons_succ]
        refine wpAnyH_take (i := 6) (v := ?v47) rfl (by kernel_rfl) (by kernel_rfl) (by kernel_rfl) (fun _ _ _ h => h) (Or.inl ⟨by rfl, ?hy47⟩) hS0 ?_
        case hy47 => (intro w' hw'; obtain ⟨c0, c6, c1⟩ := hw'; go_simp; try with_reducible rfl)
        simp only [List.getElem_toArray, List.getElem_cons_zero, List.getElem_cons_succ, Act.put, List.setIfInBounds_toArray, List.set_cons_zero, List.set_cons_succ]
        refine wpAnyH_take (i := 7) (v := ?v48) rfl (by kernel_rfl) (by kernel_rfl) (by kernel_rfl) (fun _ _ _ h => h) (Or.inl ⟨by rfl, ?hy48⟩) hS0 ?_
        case hy48 => (intro w' hw'; obtain ⟨c0, c6, c1⟩ := hw'; go_simp; try with_reducible rfl)
        simp only [List.getElem_toArray, List.getElem_cons_zero, List.getElem_cons_succ, Act.put, List.setIfInBounds_toArray, List.set_cons_zero, List.set_cons_succ]
        refine wpAnyH_take (i := 8) (v := ?v49) rfl (by kernel_rfl) (by kernel_rfl) (by kernel_rfl) (fun _ _ _ h => h) (Or.inl ⟨by rfl, ?hy49⟩) hS0 ?_
        case hy49 => (intro w' hw'; obtain ⟨c0, c6, c1⟩ := hw'; go_simp; try with_reducible rfl)
        simp only [List.getElem_toArray, List.getElem_cons_zero, List.getElem_cons_succ, Act.put, List.setIfInBounds_toArray, List.set_cons_zero, List.set_cons_succ]
        refine wpAnyH_take (i := 9) (v := ?v50) rfl (by kernel_rfl) (by kernel_rfl) (by kernel_rfl) (fun _ _ _ h => h) (Or.inl ⟨by rfl, ?hy50⟩) hS0 ?_
        case hy50 => (intro w' hw'; obtain ⟨c0, c6, c1⟩ := hw'; go_simp; try with_reducible rfl)
        simp only [List.getElem_toArray, List.getElem_cons_zero, List.getElem_cons_succ, Act.put, List.setIfInBounds_toArray, List.set_cons_zero, List.set_cons_succ]
        refine wpAnyH_take (i := 10) (v := ?v51) rfl (by kernel_rfl) (by kernel_rfl) (by kernel_rfl) (fun _ _ _ h => h) (Or.inl ⟨by rfl, ?hy51⟩) hS0 ?_
        case hy51 => (intro w' hw'; obtain ⟨c0, c6, c1⟩ := hw'; go_simp; try with_reducible rfl)
        simp only [List.getElem_toArray, List.getElem_cons_zero, List.getElem_cons_succ, Act.put, List.setIfInBounds_toArray, List.set_cons_zero, List.set_cons_succ]
        refine wpAnyH_take (i := 11) (v := ?v52) rfl (by kernel_rfl) (by kernel_rfl) (by kernel_rfl) (fun _ _ _ h => h) (Or.inl ⟨by rfl, ?hy52⟩) hS0 ?_
        case hy52 => (intro w' hw'; obtain ⟨c0, c6, c1⟩ := hw'; go_simp; try with_reducible rfl)
        simp only [List.getElem_toArray, List.getElem_cons_zero, List.getElem_cons_succ, Act.put, List.setIfInBounds_toArray, List.set_cons_zero, List.set_cons_succ]
        refine wpAnyH_take (i := 12) (v := ?v53) rfl (by kernel_rfl) (by kernel_rfl) (by kernel_rfl) (fun _ _ _ h => h) (Or.inl ⟨by rfl, ?hy53⟩) hS0 ?_
        case hy53 => (intro w' hw'; obtain ⟨c0, c6, c1⟩ := hw'; go_simp; try with_reducible rfl)
        simp only [List.getElem_toArray, List.getElem_cons_zero, List.getElem_cons_succ, Act.put, List.setIfInBounds_toArray, List.set_cons_zero, List.set_cons_succ]
        refine wpAnyH_take (i := 13) (v := ?v54) rfl (by kernel_rfl) (by kernel_rfl) (by kernel_rfl) (fun _ _ _ h => h) (Or.inl ⟨by rfl, ?hy54⟩) hS0 ?_
        case hy54 => (intro w' hw'; obtain ⟨c0, c6, c1⟩ := hw'; go_simp; try with_reducible rfl)
        simp only [List.getElem_toArray, List.getElem_cons_zero, List.getElem_cons_succ, Act.put, List.setIfInBounds_toArray, List.set_cons_zero, List.set_cons_succ]
        refine wpAnyH_take (i := 14) (v := ?v55) rfl (by kernel_rfl) (by kernel_rfl) (by kernel_rfl) (fun _ _ _ h => h) (Or.inl ⟨by rfl, ?hy55⟩) hS0 ?_
        case hy55 => (intro w' hw'; obtain ⟨c0, c6, c1⟩ := hw'; go_simp; try with_reducible rfl)
        simp only [List.getElem_toArray, List.getElem_cons_zero, List.getElem_cons_succ, Act.put, List.setIfInBounds_toArray, List.set_cons_zero, List.set_cons_succ]
        refine wpAnyH_take (i := 15) (v := ?v56) rfl (by kernel_rfl) (by kernel_rfl) (by kernel_rfl) (fun _ _ _ h => h) (Or.inl ⟨by rfl, ?hy56⟩) hS0 ?_
        case hy56 => (intro w' hw'; obtain ⟨c0, c6, c1⟩ := hw'; go_simp; try with_reducible rfl)
        simp only [List.getElem_toArray, List.getElem_cons_zero, List.getElem_cons_succ, Act.put, List.setIfInBounds_toArray, List.set_cons_zero, List.set_cons_succ]
        refine wpAnyH_take (i := 16) (v := ?v57) rfl (by kernel_rfl) (by kernel_rfl) (by kernel_rfl) (fun _ _ _ h => h) (Or.inl ⟨by rfl, ?hy57⟩) hS0 ?_
        case hy57 => (intro w' hw'; obtain ⟨c0, c6, c1⟩ := hw'; go_simp; try with_reducible rfl)
        simp only [List.getElem_toArray, List.getElem_cons_zero, List.getElem_cons_succ, Act.put, List.setIfInBounds_toArray, List.set_cons_zero, List.set_cons_succ]
        refine wpAnyH_take (i := 17) (v := ?v58) rfl (by kernel_rfl) (by kernel_rfl) (by kernel_rfl) (fun _ _ _ h => h) (Or.inl ⟨by rfl, ?hy58⟩) hS0 ?_
        case hy58 => (intro w' hw'; obtain ⟨c0, c6, c1⟩ := hw'; go_simp; try with_reducible rfl)
        simp only [List.getElem_toArray, List.getElem_cons_zero, List.getElem_cons_succ, Act.put, List.setIfInBounds_toArray, List.set_cons_zero, List.set_cons_succ]
        refine wpAnyH_take (i := 18) (v := ?v59) rfl (by kernel_rfl) (by kernel_rfl) (by kernel_rfl) (fun _ _ _ h => h) (Or.inl ⟨by rfl, ?hy59⟩) hS0 ?_
        case hy59 => (intro w' hw'; obtain ⟨c0, c6, c1⟩ := hw'; go_simp; try with_reducible rfl)
        simp only [List.getElem_toArray, List.getElem_cons_zero, List.getElem_cons_succ, Act.put, List.setIfInBounds_toArray, List.set_cons_zero, List.set_cons_succ]
        refine wpAnyH_take (i := 19) (v := ?v60) rfl (by kernel_rfl) (by kernel_rfl) (by kernel_rfl) (fun _ _ _ h => h) (Or.inl ⟨by rfl, ?hy60⟩) hS0 ?_
        case hy60 => (intro w' hw'; obtain ⟨c0, c6, c1⟩ := hw'; go_simp; try with_reducible rfl)
        simp only [List.getElem_toArray, List.getElem_cons_zero, List.getElem_cons_succ, Act.put, List.setIfInBounds_toArray, List.set_cons_zero, List.set_cons_succ]
        refine wpAnyH_done (by kernel_rfl) ?_ _; refine NoPanic.normal ?_
        have bW1 : Below w.heap.size w { W with drawn := W.drawn + 1 } := bW.drew
        generalize ({ W with drawn := W.drawn + 1 } : World) = W1 at *
        go_wp2
        go_ret
        exact ⟨bW1, .inr ⟨by omega, rfl⟩⟩
  · have hd5 : (kd != 5) = true := by simpa using h5
    go_enter Try.func57, Try.ntmps57
    go_wp2_with fail
    rw [← unhide EW]
    clear EW
    have hS0 : ({ W with drawn := W.drawn + 1 } : World).cell? ⟨b, o, none⟩ = some (.int .i64 kd) ∧ ({ W with drawn := W.drawn + 1 } : World).cell? ⟨b, o + 6, none⟩ = some (.slice ai n c) ∧ ({ W with drawn := W.drawn + 1 } : World).cell? ⟨w.heap.size, 1, none⟩ = some (.int .i64 ix) := ⟨y0, y6, s1⟩
    clear y0 y6 s1
    refine wp_region_noPanic ?_
    refine wp_region_held (S := fun w' => w'.cell? ⟨b, o, none⟩ = some (.int .i64 kd) ∧ w'.cell? ⟨b, o + 6, none⟩ = some (.slice ai n c) ∧ w'.cell? ⟨w.heap.size, 1, none⟩ = some (.int .i64 ix)) mixed ?_
    refine wpAnyH_take (i := 0) (v := ?v61) rfl (by kernel_rfl) (by kernel_rfl) (by kernel_rfl) (fun _ _ _ h => h) (Or.inl ⟨by rfl, ?hy61⟩) hS0 ?_
    case hy61 => (intro w' hw'; obtain ⟨c0, c6, c1⟩ := hw'; go_simp; try with_reducible rfl)
    simp only [List.getElem_toArray, List.getElem_cons_zero, List.getElem_cons_succ, Act.put, List.setIfInBounds_toArray, List.set_cons_zero, List.set_cons_succ]
    refine wpAnyH_take (i := 1) (v := ?v62) rfl (by kernel_rfl) (by kernel_rfl) (by kernel_rfl) (fun _ _ _ h => h) (Or.inl ⟨by rfl, ?hy62⟩) hS0 ?_
    case hy62 => (intro w' hw'; obtain ⟨c0, c6, c1⟩ := hw'; go_simp; try with_reducible rfl)
    simp only [List.getElem_toArray, List.getElem_cons_zero, List.getElem_cons_succ, Act.put, List.setIfInBounds_toArray, List.set_cons_zero, List.set_cons_succ]
    refine wpAnyH_take (i := 2) (v := ?v63) rfl (by kernel_rfl) (by kernel_rfl) (by kernel_rfl) (fun _ _ _ h => h) (Or.inl ⟨by rfl, ?hy63⟩) hS0 ?_
    case hy63 => (intro w' hw'; obtain ⟨c0, c6, c1⟩ := hw'; go_simp; try with_reducible rfl)
    simp only [List.getElem_toArray, List.getElem_cons_zero, List.getElem_cons_succ, Act.put, List.setIfInBounds_toArray, List.set_cons_zero, List.set_cons_succ]
    refine wpAnyH_take (i := 3) (v := ?v64) rfl (by kernel_rfl) (by kernel_rfl) (by kernel_rfl) (fun _ _ _ h => h) (Or.inl ⟨by rfl, ?hy64⟩) hS0 ?_
    case hy64 => (intro w' hw'; obtain ⟨c0, c6, c1⟩ := hw'; go_simp; try with_reducible rfl)
    simp only [List.getElem_toArray, List.getElem_cons_zero, List.getElem_cons_succ, Act.put, List.setIfInBounds_toArray, List.set_cons_zero, List.set_cons_succ]
    refine wpAnyH_take (i := 4) (v := ?v65) rfl (by kernel_rfl) (by kernel_rfl) (by kernel_rfl) (fun _ _ _ h => h) (Or.inl ⟨by rfl, ?hy65⟩) hS0 ?_
    case hy65 => (intro w' hw'; obtain ⟨c0, c6, c1⟩ := hw'; go_simp; try with_reducible rfl)
    simp only [List.getElem_toArray, List.getElem_cons_zero, List.getElem_cons_succ, Act.put, List.setIfInBounds_toArray, List.set_cons_zero, List.set_cons_succ]
    refine wpAnyH_take (i := 5) (v := ?v66) rfl (by kernel_rfl) (by kernel_rfl) (by kernel_rfl) (fun _ _ _ h => h) (Or.inl ⟨by rfl, ?hy66⟩) hS0 ?_
    case hy66 => (intro w' hw'; obtain ⟨c0, c6, c1⟩ := hw'; go_simp; try with_reducible rfl)
    simp only [List.getElem_toArray, List.getElem_cons_zero, List.getElem_cons_succ, Act.put, List.setIfInBounds_toArray, List.set_cons_zero, List.set_cons_succ]
    refine wpAnyH_take (i := 6) (v := undef) rfl (by kernel_rfl) (by kernel_rfl) (by kernel_rfl) (fun _ _ _ h => h) (Or.inr ⟨by rfl, rfl⟩) hS0 ?_
    simp only [List.getElem_toArray, List.getElem_cons_zero, List.getElem_cons_succ, Act.put, List.setIfInBounds_toArray, List.set_cons_zero, List.set_cons_succ]
    refine wpAnyH_take (i := 7) (v := undef) rfl (by kernel_rfl) (by kernel_rfl) (by kernel_rfl) (fun _ _ _ h => h) (Or.inr ⟨by rfl, rfl⟩) hS0 ?_
    simp only [List.getElem_toArray, List.getElem_cons_zero, List.getElem_cons_succ, Act.put, List.setIfInBounds_toArray, List.set_cons_zero, List.set_cons_succ]
    refine wpAnyH_take (i := 8) (v := undef) rfl (by kernel_rfl) (by kernel_rfl) (by kernel_rfl) (fun _ _ _ h => h) (Or.inr ⟨by rfl, rfl⟩) hS0 ?_
    simp only [List.getElem_toArray, List.getElem_cons_zero, List.getElem_cons_succ, Act.put, List.setIfInBounds_toArray, List.set_cons_zero, List.set_cons_succ]
    refine wpAnyH_take (i := 9) (v := ?v67) rfl (by kernel_rfl) (by kernel_rfl) (by kernel_rfl) (fun _ _ _ h => h) (Or.inl ⟨by rfl, ?hy67⟩) hS0 ?_
    case hy67 => (intro w' hw'; obtain ⟨c0, c6, c1⟩ := hw'; go_simp; try with_reducible rfl)
    simp only [List.getElem_toArray, List.getElem_cons_zero, List.getElem_cons_succ, Act.put, List.setIfInBounds_toArray, List.set_cons_zero, List.set_cons_succ]
    refine wpAnyH_take (i := 10) (v := ?v68) rfl (by kernel_rfl) (by kernel_rfl) (by kernel_rfl) (fun _ _ _ h => h) (Or.inl ⟨by rfl, ?hy68⟩) hS0 ?_
    case hy68 => (intro w' hw'; obtain ⟨c0, c6, c1⟩ := hw'; go_simp; try with_reducible rfl)
    simp only [List.getElem_toArray, List.getElem_cons_zero, List.getElem_cons_succ, Act.put, List.setIfInBounds_toArray, List.set_cons_zero, List.set_cons_succ]
    refine wpAnyH_take (i := 11) (v := undef) rfl (by kernel_rfl) (by kernel_rfl) (by kernel_rfl) (fun _ _ _ h => h) (Or.inr ⟨by rfl, rfl⟩) hS0 ?_
    simp only [List.getElem_toArray, List.getElem_cons_zero, List.getElem_cons_succ, Act.put, List.setIfInBounds_toArray, List.set_cons_zero, List.set_cons_succ]
    refine wpAnyH_take (i := 12) (v := undef) rfl (by kernel_rfl) (by kernel_rfl) (by kernel_rfl) (fun _ _ _ h => h) (Or.inr ⟨by rfl, rfl⟩) hS0 ?_
    simp only [List.getElem_toArray, List.getElem_cons_zero, List.getElem_cons_succ, Act.put, List.setIfInBounds_toArray, List.set_cons_zero, List.set_cons_succ]
    refine wpAnyH_take (i := 13) (v := undef) rfl (by kernel_rfl) (by kernel_rfl) (by kernel_rfl) (fun _ _ _ h => h) (Or.inr ⟨by rfl, rfl⟩) hS0 ?_
    simp only [List.getElem_toArray, List.getElem_cons_zero, List.getElem_cons_succ, Act.put, List.setIfInBounds_toArray, List.set_cons_zero, List.set_cons_succ]
    refine wpAnyH_take (i := 14) (v := undef) rfl (by kernel_rfl) (by kernel_rfl) (by kernel_rfl) (fun _ _ _ h => h) (Or.inr ⟨by rfl, rfl⟩) hS0 ?_
    simp only [List.getElem_toArray, List.getElem_cons_zero, List.getElem_cons_succ, Act.put, List.setIfInBounds_toArray, List.set_cons_zero, List.set_cons_succ]
    refine wpAnyH_take (i := 15) (v := undef) rfl (by kernel_rfl) (by kernel_rfl) (by kernel_rfl) (fun _ _ _ h => h) (Or.inr ⟨by rfl, rfl⟩) hS0 ?_
    simp only [List.getElem_toArray, List.getElem_cons_zero, List.getElem_cons_succ, Act.put, List.setIfInBounds_toArray, List.set_cons_zero, List.set_cons_succ]
    refine wpAnyH_take (i := 16) (v := undef) rfl (by kernel_rfl) (by kernel_rfl) (by kernel_rfl) (fun _ _ _ h => h) (Or.inr ⟨by rfl, rfl⟩) hS0 ?_
    simp only [List.getElem_toArray, List.getElem_cons_zero, List.getElem_cons_succ, Act.put, List.setIfInBounds_toArray, List.set_cons_zero, List.set_cons_succ]
    refine wpAnyH_take (i := 17) (v := undef) rfl (by kernel_rfl) (by kernel_rfl) (by kernel_rfl) (fun _ _ _ h => h) (Or.inr ⟨by rfl, rfl⟩) hS0 ?_
    simp only [List.getElem_toArray, List.getElem_cons_zero, List.getElem_cons_succ, Act.put, List.setIfInBounds_toArray, List.set_cons_zero, List.set_cons_succ]
    refine wpAnyH_take (i := 18) (v := undef) rfl (by kernel_rfl) (by kernel_rfl) (by kernel_rfl) (fun _ _ _ h => h) (Or.inr ⟨by rfl, rfl⟩) hS0 ?_
    simp only [List.getElem_toArray, List.getElem_cons_zero, List.getElem_cons_succ, Act.put, List.setIfInBounds_toArray, List.set_cons_zero, List.set_cons_succ]
    refine wpAnyH_take (i := 19) (v := ?v69) rfl (by kernel_rfl) (by kernel_rfl) (by kernel_rfl) (fun _ _ _ h => h) (Or.inl ⟨by rfl, ?hy69⟩) hS0 ?_
    case hy69 => (intro w' hw'; obtain ⟨c0, c6, c1⟩ := hw'; go_simp; try with_reducible rfl)
    simp only [List.getElem_toArray, List.getElem_cons_zero, List.getElem_cons_succ, Act.put, List.setIfInBounds_toArray, List.set_cons_zero, List.set_cons_succ]
    refine wpAnyH_done (by kernel_rfl) ?_ _; refine NoPanic.normal ?_
    have bW1 : Below w.heap.size w { W with drawn := W.drawn + 1 } := bW.drew
    generalize ({ W with drawn := W.drawn + 1 } : World) = W1 at *
    go_wp2
    go_ret
    exact ⟨bW1, .inr ⟨by omega, rfl⟩⟩
end Go.Proofs.Ythpcpminikmcbaa.vl
namespace Go.Proofs.Ythpcpminikmcbaa.vl
open Go.ChangeShapes Go.WideShapes Go.ChangeAt Go.RowKit
open stp (St Pth St3)
set_option linter.unusedVariables false
set_option linter.unusedSimpArgs false
theorem bytesExt {a b : ByteArray} (h : a.toList = b.toList) : a = b := by
  rw [Lib.toList_data, Lib.toList_data] at h
  obtain ⟨⟨x⟩⟩ := a
  obtain ⟨⟨y⟩⟩ := b
  simp at h
  rw [h]
theorem findIdx_some {α : Type} {f : α → Bool} : ∀ {l : List α} {k : Nat} {x : α}, l[k]? = some x → f x = true → (∀ i y, i < k → l[i]? = some y → f y = false) → l.findIdx? f = some k
  | [], k, x, h, _, _ => by simp at h
  | y :: r, 0, x, h, hx, _ => by simp at h; subst h; simp [List.findIdx?_cons, hx]
  | y :: r, k + 1, x, h, hx, hn => by
    have h0 := hn 0 y (by omega) rfl
    have := findIdx_some (f := f) (l := r) (by simpa using h) hx (fun i z hi hz => hn (i + 1) z (by omega) (by simpa using hz))
    simp [List.findIdx?_cons, h0, this]
theorem findIdx_none {α : Type} {f : α → Bool} : ∀ {l : List α}, (∀ (i : Nat) (y : α), l[i]? = some y → f y = false) → l.findIdx? f = none
  | [], _ => rfl
  | y :: r, hn => by
    have h0 : f y = false := hn 0 y rfl
    have := findIdx_none (f := f) (l := r) (fun i z hz => hn (i + 1) z (by simpa using hz))
    simp [List.findIdx?_cons, h0, this]
set_option maxHeartbeats 6000000 in
set_option maxRecDepth 6000 in
theorem child_name (b o : Nat) (kd : Int) (af : Option Addr) (n c : Nat) (fls : Fls) (nm : ByteArray) (ix : Int) (w : World) (hb : b < w.heap.size) (x0 : w.cell? ⟨b, o, none⟩ = some (.int .i64 kd)) (x7 : w.cell? ⟨b, o + 7, none⟩ = some (.slice af n c)) (hF : FlsAt w fls af n) (hn : n ≤ 9223372036854775807) :
    Calls Try.prog 57 #[.pointer (some ⟨b, o, none⟩), .agg #[.string nm, .int .i64 ix, .bool false]] w fun e w' => Below w.heap.size w w' ∧ ((kd = 6 ∧ ∃ j p off, af = some ⟨p, off, none⟩ ∧ fls.list.findIdx? (fun q => decide (q.1 = nm)) = some j ∧ e = .returned (.pointer (some ⟨p, off + j * 9 + 1, none⟩))) ∨ ((kd ≠ 6 ∨ fls.list.findIdx? (fun q => decide (q.1 = nm)) = none) ∧ e = .returned (.pointer none))) := by
  obtain ⟨W, eW⟩ : ∃ W, W = w.alloc (.cells #[.string nm, .int .i64 ix, .bool false] 34) := ⟨_, rfl⟩
  have y0 : W.cell? ⟨b, o, none⟩ = some (.int .i64 kd) := by rw [eW]; exact (World.cell?_alloc_past _ _ _ hb).trans x0
  have y7 : W.cell? ⟨b, o + 7, none⟩ = some (.slice af n c) := by rw [eW]; exact (World.cell?_alloc_past _ _ _ hb).trans x7
  have s0 : W.cell? ⟨w.heap.size, 0, none⟩ = some (.string nm) := by rw [eW]; simp
  have bW : Below w.heap.size w W := by rw [eW]; exact (Below.refl _ _).alloc (Nat.le_refl _) _
  have EW := hide eW
  clear eW
  by_cases h6 : kd = 6
  · subst h6
    go_enter Try.func57, Try.ntmps57
    go_wp2_with fail
    rw [← unhide EW]
    have hsz : w.heap.size < W.heap.size := by rw [unhide EW]; simp
    clear EW x0 x7
    go_loopw [45] (fun vi wr => ∃ k : Nat, k ≤ n ∧ vi = .int .i64 k ∧ (∀ i q, i < k → fls.list[i]? = some q → q.1 ≠ nm) ∧ Below W.heap.size W wr) (fun vi _ => n - (intOf vi).toNat)
    case atStart => exact ⟨0, Nat.zero_le _, rfl, fun i q hi => absurd hi (Nat.not_lt_zero _), Below.refl _ _⟩
    case round =>
      obtain ⟨k, hk, rfl, hno, hB⟩ := hrel
      by_cases hlt : k < n
      · have ki : (k : Int) < (n : Int) := by omega
        obtain ⟨p, off, nk, v, cs, rfl, hg, hn0, -, -, -⟩ := FlsAt.get fls _ n hF k hlt
        have z7 := keepC hB (Nat.lt_trans hb hsz) y7
        have z0 := keepC hB hsz s0
        have zn := keepC hB (Nat.lt_of_lt_of_le (World.block_lt_of_cell? w _ hn0) bW.size) (keepC bW (World.block_lt_of_cell? w _ hn0) hn0)
        have HB := hide hB
        have Hg := hide hg
        clear y0 y7 s0 hn0 hB hg
        go_wp2_with fail
        have hS0 : ({ wr with drawn := wr.drawn + 1 } : World).cell? ⟨b, o + 7, none⟩ = some (.slice (some ⟨p, off, none⟩) n c) ∧ ({ wr with drawn := wr.drawn + 1 } : World).cell? ⟨w.heap.size, 0, none⟩ = some (.string nm) ∧ ({ wr with drawn := wr.drawn + 1 } : World).cell? ⟨p, off + k * 9, none⟩ = some (.string nk) := ⟨z7, z0, zn⟩
        clear z7 z0 zn
        refine wp_region_noPanic ?_
        refine wp_region_held (S := fun w' => w'.cell? ⟨b, o + 7, none⟩ = some (.slice (some ⟨p, off, none⟩) n c) ∧ w'.cell? ⟨w.heap.size, 0, none⟩ = some (.string nm) ∧ w'.cell? ⟨p, off + k * 9, none⟩ = some (.string nk)) mixed ?_
        refine wpAnyH_take (i := 0) (v := ?v1) rfl (by kernel_rfl) (by kernel_rfl) (by kernel_rfl) (fun _ _ _ h => h) (Or.inl ⟨by rfl, ?hy1⟩) hS0 ?_
        case hy1 => (intro w' hw'; obtain ⟨c7, c0, cn⟩ := hw'; go_simp; try with_reducible rfl)
        simp only [List.getElem_toArray, List.getElem_cons_zero, List.getElem_cons_succ, Act.put, List.setIfInBounds_toArray, List.set_cons_zero, List.set_cons_succ]
        refine wpAnyH_take (i := 1) (v := ?v2) rfl (by kernel_rfl) (by kernel_rfl) (by kernel_rfl) (fun _ _ _ h => h) (Or.inl ⟨by rfl, ?hy2⟩) hS0 ?_
        case hy2 => (intro w' hw'; obtain ⟨c7, c0, cn⟩ := hw'; go_simp; try with_reducible rfl)
        simp only [List.getElem_toArray, List.getElem_cons_zero, List.getElem_cons_succ, Act.put, List.setIfInBounds_toArray, List.set_cons_zero, List.set_cons_succ]
        refine wpAnyH_take (i := 2) (v := ?v3) rfl (by kernel_rfl) (by kernel_rfl) (by kernel_rfl) (fun _ _ _ h => h) (Or.inl ⟨by rfl, ?hy3⟩) hS0 ?_
        case hy3 => (intro w' hw'; obtain ⟨c7, c0, cn⟩ := hw'; go_simp; try with_reducible rfl)
        simp only [List.getElem_toArray, List.getElem_cons_zero, List.getElem_cons_succ, Act.put, List.setIfInBounds_toArray, List.set_cons_zero, List.set_cons_succ]
        refine wpAnyH_take (i := 3) (v := ?v4) rfl (by kernel_rfl) (by kernel_rfl) (by kernel_rfl) (fun _ _ _ h => h) (Or.inl ⟨by rfl, ?hy4⟩) hS0 ?_
        case hy4 => (intro w' hw'; obtain ⟨c7, c0, cn⟩ := hw'; go_simp; try with_reducible rfl)
        simp only [List.getElem_toArray, List.getElem_cons_zero, List.getElem_cons_succ, Act.put, List.setIfInBounds_toArray, List.set_cons_zero, List.set_cons_succ]
        refine wpAnyH_take (i := 4) (v := ?v5) rfl (by kernel_rfl) (by kernel_rfl) (by kernel_rfl) (fun _ _ _ h => h) (Or.inl ⟨by rfl, ?hy5⟩) hS0 ?_
        case hy5 => (intro w' hw'; obtain ⟨c7, c0, cn⟩ := hw'; go_simp; try with_reducible rfl)
        simp only [List.getElem_toArray, List.getElem_cons_zero, List.getElem_cons_succ, Act.put, List.setIfInBounds_toArray, List.set_cons_zero, List.set_cons_succ]
        refine wpAnyH_take (i := 5) (v := ?v6) rfl (by kernel_rfl) (by kernel_rfl) (by kernel_rfl) (fun _ _ _ h => h) (Or.inl ⟨by rfl, ?hy6⟩) hS0 ?_
        case hy6 => (intro w' hw'; obtain ⟨c7, c0, cn⟩ := hw'; go_simp; try with_reducible rfl)
        simp only [List.getElem_toArray, List.getElem_cons_zero, List.getElem_cons_succ, Act.put, List.setIfInBounds_toArray, List.set_cons_zero, List.set_cons_succ]
        refine wpAnyH_take (i := 6) (v := ?v7) rfl (by kernel_rfl) (by kernel_rfl) (by kernel_rfl) (fun _ _ _ h => h) (Or.inl ⟨by rfl, ?hy7⟩) hS0 ?_
        case hy7 => (intro w' hw'; obtain ⟨c7, c0, cn⟩ := hw'; go_simp; try with_reducible rfl)
        simp only [List.getElem_toArray, List.getElem_cons_zero, List.getElem_cons_succ, Act.put, List.setIfInBounds_toArray, List.set_cons_zero, List.set_cons_succ]
        refine wpAnyH_take (i := 7) (v := ?v8) rfl (by kernel_rfl) (by kernel_rfl) (by kernel_rfl) (fun _ _ _ h => h) (Or.inl ⟨by rfl, ?hy8⟩) hS0 ?_
        case hy8 => (intro w' hw'; obtain ⟨c7, c0, cn⟩ := hw'; go_simp; try with_reducible rfl)
        simp only [List.getElem_toArray, List.getElem_cons_zero, List.getElem_cons_succ, Act.put, List.setIfInBounds_toArray, List.set_cons_zero, List.set_cons_succ]
        refine wpAnyH_take (i := 8) (v := ?v9) rfl (by kernel_rfl) (by kernel_rfl) (by kernel_rfl) (fun _ _ _ h => h) (Or.inl ⟨by rfl, ?hy9⟩) hS0 ?_
        case hy9 => (intro w' hw'; obtain ⟨c7, c0, cn⟩ := hw'; go_simp; try with_reducible rfl)
        simp only [List.getElem_toArray, List.getElem_cons_zero, List.getElem_cons_succ, Act.put, List.setIfInBounds_toArray, List.set_cons_zero, List.set_cons_succ]
        refine wpAnyH_take (i := 9) (v := ?v10) rfl (by kernel_rfl) (by kernel_rfl) (by kernel_rfl) (fun _ _ _ h => h) (Or.inl ⟨by rfl, ?hy10⟩) hS0 ?_
        case hy10 => (intro w' hw'; obtain ⟨c7, c0, cn⟩ := hw'; go_simp; try with_reducible rfl)
        simp only [List.getElem_toArray, List.getElem_cons_zero, List.getElem_cons_succ, Act.put, List.setIfInBounds_toArray, List.set_cons_zero, List.set_cons_succ]
        by_cases heq : nk = nm
        · subst heq
          refine wpAnyH_take (i := 10) (v := ?v11) rfl (by kernel_rfl) (by kernel_rfl) (by kernel_rfl) (fun _ _ _ h => h) (Or.inl ⟨by rfl, ?hy11⟩) hS0 ?_
          case hy11 => (intro w' hw'; obtain ⟨c7, c0, cn⟩ := hw'; go_simp; try with_reducible rfl)
          simp only [List.getElem_toArray, List.getElem_cons_zero, List.getElem_cons_succ, Act.put, List.setIfInBounds_toArray, List.set_cons_zero, List.set_cons_succ]
          refine wpAnyH_done (by kernel_rfl) ?_ _; refine NoPanic.normal ?_
          have hB1 : Below W.heap.size W { wr with drawn := wr.drawn + 1 } := (unhide HB).drew
          generalize ({ wr with drawn := wr.drawn + 1 } : World) = W1 at *
          obtain ⟨z7, z0, zn⟩ := hS0
          go_wp2
          go_ret
          refine ⟨bW.trans (hB1.mono bW.size), .inl ⟨(by first | rfl | trivial), k, p, off, rfl, ?_, rfl⟩⟩
          exact findIdx_some (unhide Hg) (by simp) (fun i q hi hq => by simpa using hno i q hi hq)
        · have hbq : (nk.toList == nm.toList) = false := by simpa using fun e => heq (bytesExt e)
          refine wpAnyH_take (i := 10) (v := ?v12) rfl (by kernel_rfl) (by kernel_rfl) (by kernel_rfl) (fun _ _ _ h => h) (Or.inl ⟨by rfl, ?hy12⟩) hS0 ?_
          case hy12 => (intro w' hw'; obtain ⟨c7, c0, cn⟩ := hw'; go_simp; try with_reducible rfl)
          simp only [List.getElem_toArray, List.getElem_cons_zero, List.getElem_cons_succ, Act.put, List.setIfInBounds_toArray, List.set_cons_zero, List.set_cons_succ]
          refine wpAnyH_done (by kernel_rfl) ?_ _; refine NoPanic.normal ?_
          have hB1 : Below W.heap.size W { wr with drawn := wr.drawn + 1 } := (unhide HB).drew
          generalize ({ wr with drawn := wr.drawn + 1 } : World) = W1 at *
          obtain ⟨z7, z0, zn⟩ := hS0
          go_wp2
          refine ⟨⟨k + 1, by omega, by go_num, fun i q hi hq => ?_, hB1⟩, by simp only [intOf]; omega⟩
          by_cases hik : i = k
          · subst hik
            have := Option.some.inj (hq.symm.trans (unhide Hg))
            rw [this]
            exact heq
          · exact hno i q (by omega) hq
      · obtain rfl : k = n := by omega
        go_wp2
        go_ret
        refine ⟨bW.trans (hB.mono bW.size), .inr ⟨.inr ?_, rfl⟩⟩
        exact findIdx_none (fun i q hq => by
          have hi : i < k := by rw [← FlsAt.len fls _ _ hF]; exact (List.getElem?_eq_some_iff.1 hq).1
          simpa using hno i q hi hq)
  · have hd6 : (kd != 6) = true := by simpa using h6
    go_enter Try.func57, Try.ntmps57
    go_wp2
    go_ret
    exact ⟨(Below.refl _ _).alloc (Nat.le_refl _) _, .inr ⟨.inl h6, rfl⟩⟩
end Go.Proofs.Ythpcpminikmcbaa.vl
namespace Go.Proofs.Ythpcpminikmcbaa.vl
open Go.ChangeShapes Go.WideShapes Go.ChangeAt Go.RowKit
open stp (St Pth St3)
set_option linter.unusedVariables false
set_option linter.unusedSimpArgs false
/-- where the child number i of a value with these cells lies -/
def Loc (cs : List Value) (s : St) (i b o : Nat) : Prop :=
  ∃ p off n c, if s.it = true then cs[6]? = some (.slice (some ⟨p, off, none⟩) n c) ∧ b = p ∧ o = off + i * 8 else cs[7]? = some (.slice (some ⟨p, off, none⟩) n c) ∧ b = p ∧ o = off + i * 9 + 1
def getS : Vl → St → Option Vl
  | .mk kd b n f tx ty its fls, s => match chI (.mk kd b n f tx ty its fls) s with
    | none => none
    | some i => if s.it = true then its.list[i]? else (fls.list[i]?).map (·.2)
def getP : Vl → List St → Option Vl
  | v, [] => some v
  | v, s :: r => (getS v s).bind fun u => getP u r
theorem chI_mk (kd : Int) (b : Bool) (n : Int) (f : Nat) (tx ty : ByteArray) (its : Vls) (fls : Fls) (s : St) : chI (.mk kd b n f tx ty its fls) s = if s.it = true then (if kd = 5 ∧ 0 ≤ s.ix ∧ s.ix < its.list.length then some s.ix.toNat else none) else (if kd = 6 then fls.list.findIdx? (fun q => decide (q.1 = s.nm)) else none) := rfl
theorem findIdx_get {α : Type} {f : α → Bool} {l : List α} {i : Nat} (h : l.findIdx? f = some i) : ∃ x, l[i]? = some x ∧ f x = true := by
  rw [List.findIdx?_eq_some_iff_getElem] at h
  obtain ⟨hi, hx, _⟩ := h
  exact ⟨l[i], by simp [hi], hx⟩
/-- the child of a value that is read -/
theorem VlC.child {w : World} {v : Vl} {cs : List Value} {s : St} {i b o : Nat} (h : VlC w v cs) (hi : chI v s = some i) (hl : Loc cs s i b o) : ∃ u us, getS v s = some u ∧ Row8 w b o us ∧ VlC w u us := by
  obtain ⟨kd, bb, ni, f, tx, ty, its, fls⟩ := v
  have hg : getS (.mk kd bb ni f tx ty its fls) s = if s.it = true then its.list[i]? else (fls.list[i]?).map (·.2) := by simp only [getS, hi]
  rw [chI_mk] at hi
  unfold VlC at h
  obtain ⟨ai, nI, ci, af, nf, cf, rfl, hI, hF, -⟩ := h
  obtain ⟨p, off, n, c, hl⟩ := hl
  by_cases ht : s.it = true
  · rw [if_pos ht] at hi hl hg
    obtain ⟨h6, rfl, rfl⟩ := hl
    simp at h6
    obtain ⟨rfl, rfl, rfl⟩ := h6
    by_cases hc : kd = 5 ∧ 0 ≤ s.ix ∧ s.ix < its.list.length
    · rw [if_pos hc] at hi
      obtain rfl := Option.some.inj hi
      have hlen := VlsAt.len its _ _ hI
      obtain ⟨b', off', u, us, e, hu, hr, hv⟩ := VlsAt.get its _ _ hI s.ix.toNat (by omega)
      simp only [Option.some.injEq, Addr.mk.injEq, and_true] at e
      obtain ⟨rfl, rfl⟩ := e
      exact ⟨u, us, hg.trans hu, hr, hv⟩
    · rw [if_neg hc] at hi
      cases hi
  · rw [if_neg ht] at hi hl hg
    obtain ⟨h7, rfl, rfl⟩ := hl
    simp at h7
    obtain ⟨rfl, rfl, rfl⟩ := h7
    by_cases hc : kd = 6
    · rw [if_pos hc] at hi
      have hlen := FlsAt.len fls _ _ hF
      obtain ⟨q, hq, _⟩ := findIdx_get hi
      obtain ⟨b', off', nm, u, us, e, hu, _, _, hr, hv⟩ := FlsAt.get fls _ _ hF i (by rw [← hlen]; exact (List.getElem?_eq_some_iff.1 hq).1)
      simp only [Option.some.injEq, Addr.mk.injEq, and_true] at e
      obtain ⟨rfl, rfl⟩ := e
      exact ⟨u, us, hg.trans (by rw [hu]; rfl), hr, hv⟩
    · rw [if_neg hc] at hi
      cases hi
theorem addr_of_vls {w : World} {l : Vls} {a : Option Addr} {n : Nat} (h : VlsAt w l a n) : n = 0 ∨ ∃ p off, a = some ⟨p, off, none⟩ := by
  cases l with
  | nil => unfold VlsAt at h; exact .inl h
  | cons v r => unfold VlsAt at h; obtain ⟨b, off, m, cs, h1, _⟩ := h; exact .inr ⟨b, off, h1⟩
/-- tree.child -/
theorem child_ok (v : Vl) (cs : List Value) (b o : Nat) (s : St) (w : World) (hr : Row8 w b o cs) (hv : VlC w v cs) :
    Calls Try.prog 57 #[.pointer (some ⟨b, o, none⟩), s.val] w fun e w' => Below w.heap.size w w' ∧ ((chI v s = none ∧ e = .returned (.pointer none)) ∨ ∃ i b' o', chI v s = some i ∧ Loc cs s i b' o' ∧ e = .returned (.pointer (some ⟨b', o', none⟩))) := by
  obtain ⟨kd, bb, ni, f, tx, ty, its, fls⟩ := v
  unfold VlC at hv
  obtain ⟨ai, nI, ci, af, nf, cf, rfl, hI, hF, hni, hnf, hai, haf, hk1, hk2, hk3, hk4, hci, hcf⟩ := hv
  have x0 := hr 0 _ rfl
  have x6 := hr 6 _ rfl
  have x7 := hr 7 _ rfl
  have hb := World.block_lt_of_cell? w _ x0
  have hlI := VlsAt.len its _ _ hI
  unfold maxLen at hci hcf
  obtain ⟨nm, ix, it⟩ := s
  unfold St.val
  cases it with
  | true =>
    refine (child_item b o kd ai nI ci nm ix w hb x0 x6 (by omega) (addr_of_vls hI)).mono ?_
    rintro e w' ⟨hB, ⟨rfl, h0, h1, p, off, rfl, rfl⟩ | ⟨hn, rfl⟩⟩
    · refine ⟨hB, .inr ⟨ix.toNat, p, off + ix.toNat * 8, ?_, ⟨p, off, nI, ci, by simp⟩, rfl⟩⟩
      rw [chI_mk]
      rw [if_pos rfl, if_pos ⟨rfl, h0, by rw [hlI]; exact h1⟩]
    · refine ⟨hB, .inl ⟨?_, rfl⟩⟩
      rw [chI_mk]
      rw [if_pos rfl, if_neg (by rw [hlI]; exact hn)]
  | false =>
    refine (child_name b o kd af nf cf fls nm ix w hb x0 x7 hF (by omega)).mono ?_
    rintro e w' ⟨hB, ⟨rfl, j, p, off, rfl, hj, rfl⟩ | ⟨hn, rfl⟩⟩
    · refine ⟨hB, .inr ⟨j, p, off + j * 9 + 1, ?_, ⟨p, off, nf, cf, by simp⟩, rfl⟩⟩
      rw [chI_mk]
      rw [if_neg (by simp), if_pos rfl]
      exact hj
    · refine ⟨hB, .inl ⟨?_, rfl⟩⟩
      rw [chI_mk]
      rw [if_neg (by simp)]
      rcases hn with hn | hn
      · rw [if_neg hn]
      · by_cases hk : kd = 6
        · rw [if_pos hk]; exact hn
        · rw [if_neg hk]
end Go.Proofs.Ythpcpminikmcbaa.vl
namespace Go.Proofs.Ythpcpminikmcbaa.vl
open Go.ChangeShapes Go.WideShapes Go.ChangeAt Go.RowKit
open stp (St Pth St3)
set_option linter.unusedVariables false
set_option linter.unusedSimpArgs false
set_option maxHeartbeats 6000000 in
set_option maxRecDepth 6000 in
/-- tree.lead, whatever is known of the way -/
theorem lead_ok (J : Nat → Nat → Nat → Vl → List Value → Prop) (W : World) (ap : Option Addr) (n c : Nat) (ss : List St) (hp : Pth W ap n ss) (hn : n ≤ 4611686018427387903) (b0 o0 : Nat) (v0 : Vl) (cs0 : List Value) (h0 : J 0 b0 o0 v0 cs0)
    (hread : ∀ k b o u us, J k b o u us → Row8 W b o us ∧ VlC W u us)
    (hstep : ∀ k b o u us s i b' o', J k b o u us → ss[k]? = some s → chI u s = some i → Loc us s i b' o' → ∃ u' us', J (k + 1) b' o' u' us') :
    Calls Try.prog 34 #[.pointer (some ⟨b0, o0, none⟩), .slice ap n c] W fun e w' => Below W.heap.size W w' ∧ ((∃ k b o u us s, J k b o u us ∧ ss[k]? = some s ∧ chI u s = none ∧ e = .returned (.pointer none)) ∨ (∃ b o u us, J n b o u us ∧ e = .returned (.pointer (some ⟨b, o, none⟩)))) := by
  have HP := hide hp
  have HR := hide hread
  have HS := hide hstep
  have H0 := hide h0
  clear hp hread hstep h0
  have hnil : ∀ (w : World) (a : Option Addr), (binOp .eql 70 (.pointer a) (.pointer none)).run Try.prog w = .ok (.bool a.isNone) w := by
    intro w a
    cases a <;> go_simp
  go_enter Try.func34, Try.ntmps34
  go_wp2_with fail
  go_loopw [0, 9] (fun vp vi wr => ∃ (k b o : Nat) (u : Vl) (us : List Value), k ≤ n ∧ vp = .pointer (some ⟨b, o, none⟩) ∧ vi = .int .i64 k ∧ Hid (J k b o u us) ∧ Below W.heap.size W wr) (fun _ vi _ => n - (intOf vi).toNat)
  case atStart => exact ⟨0, b0, o0, v0, cs0, Nat.zero_le _, rfl, rfl, H0, Below.refl _ _⟩
  case round =>
    obtain ⟨k, b, o, u, us, hk, rfl, rfl, hJ, hB⟩ := hrel
    by_cases hlt : k < n
    · have ki : (k : Int) < (n : Int) := by omega
      obtain ⟨bp, off, rfl, hbp, hst⟩ : ∃ bp off, ap = some ⟨bp, off, none⟩ ∧ bp < W.heap.size ∧ ∀ i, i < n → ∃ s, ss[i]? = some s ∧ St3 W bp (off + i * 3) s.nm s.ix s.it := by
        rcases (unhide HP).at_ with h | h
        · omega
        · exact h
      obtain ⟨s, hs, h3⟩ := hst k hlt
      clear hst
      obtain ⟨q0, q1, q2⟩ := h3.below hbp hB
      obtain ⟨nm, ix, it⟩ := s
      simp only at q0 q1 q2
      have Hs := hide hs
      clear hs h3
      go_wp2_with fail
      have b1 : Below W.heap.size W (wr.alloc (.cells #[.string nm, .int .i64 ix, .bool it] 34)) := hB.alloc hB.size _
      obtain ⟨hrow, hval⟩ := unhide HR k b o u us (unhide hJ)
      refine (child_ok u us b o ⟨nm, ix, it⟩ _ (Row8.below hrow b1) (VlC.below b1 u us hval)).mono ?_
      rintro e w2 ⟨b2, h2⟩
      have b3 : Below W.heap.size W w2 := b1.trans (b2.mono b1.size)
      rcases h2 with ⟨hc, rfl⟩ | ⟨i, b', o', hc, hloc, rfl⟩
      · have Hc := hide hc
        clear hrow hval hc b2 b1
        go_wp2
        go_ret
        exact ⟨b3, .inl ⟨k, b, o, u, us, _, unhide hJ, unhide Hs, unhide Hc, rfl⟩⟩
      · obtain ⟨u', us', hJ'⟩ := unhide HS k b o u us _ i b' o' (unhide hJ) (unhide Hs) hc hloc
        have HJ' := hide hJ'
        clear hrow hval hc hloc b2 b1 hJ'
        go_wp2
        exact ⟨⟨k + 1, b', o', u', us', by omega, rfl, by go_num, HJ', b3⟩, by simp only [intOf]; omega⟩
    · obtain rfl : k = n := by omega
      go_wp2
      go_ret
      exact ⟨hB, .inr ⟨b, o, u, us, unhide hJ, rfl⟩⟩
end Go.Proofs.Ythpcpminikmcbaa.vl
namespace Go.Proofs.Ythpcpminikmcbaa.vl
open Go.ChangeShapes Go.WideShapes Go.ChangeAt Go.RowKit
open stp (St Pth St3)
set_option linter.unusedVariables false
set_option linter.unusedSimpArgs false
theorem getP_app : ∀ (l r : List St) (v : Vl), getP v (l ++ r) = (getP v l).bind fun u => getP u r
  | [], r, v => rfl
  | s :: l, r, v => by
    simp only [List.cons_append, getP]
    cases getS v s with
    | none => rfl
    | some u => simpa using getP_app l r u
theorem getP_one (v : Vl) (s : St) : getP v [s] = getS v s := by
  simp only [getP]
  cases getS v s <;> rfl
theorem getP_take {v u : Vl} {ss : List St} {k : Nat} {s : St} (h : getP v (ss.take k) = some u) (hs : ss[k]? = some s) : getP v (ss.take (k + 1)) = getS u s := by
  rw [List.take_add_one, hs, getP_app, h]
  exact getP_one u s
theorem getS_none {v : Vl} {s : St} (h : chI v s = none) : getS v s = none := by
  cases v
  simp only [getS, h]
theorem getP_none {v u : Vl} {ss : List St} {k : Nat} {s : St} (h : getP v (ss.take k) = some u) (hs : ss[k]? = some s) (hc : chI u s = none) : getP v ss = none := by
  have h1 := getP_take h hs
  rw [getS_none hc] at h1
  rw [← List.take_append_drop (k + 1) ss, getP_app, h1]
  rfl
theorem Small.getS {v u : Vl} {s : St} (hv : Small v) (h : getS v s = some u) : Small u := by
  obtain ⟨kd, bb, ni, f, tx, ty, its, fls⟩ := v
  unfold Small at hv
  simp only [vl.getS] at h
  cases hc : chI (.mk kd bb ni f tx ty its fls) s with
  | none => rw [hc] at h; cases h
  | some i =>
    rw [hc] at h
    simp only at h
    by_cases ht : s.it = true
    · rw [if_pos ht] at h
      exact hv.2.2.2.1.all u (List.mem_of_getElem? h)
    · rw [if_neg ht, Option.map_eq_some_iff] at h
      obtain ⟨q, hq, rfl⟩ := h
      exact hv.2.2.2.2.all q (List.mem_of_getElem? hq)
theorem Small.getP : ∀ {ss : List St} {v u : Vl}, Small v → getP v ss = some u → Small u
  | [], v, u, hv, h => by simp only [vl.getP, Option.some.injEq] at h; rw [← h]; exact hv
  | s :: r, v, u, hv, h => by
    simp only [vl.getP] at h
    cases hs : vl.getS v s with
    | none => rw [hs] at h; cases h
    | some x => rw [hs] at h; exact Small.getP (hv.getS hs) h
/-- the empty value -/
def z8 : List Value := [.int .i64 0, .bool false, .int .i64 0, .float .f64 0, .string { data := #[] }, .string { data := #[] }, .slice none 0 0, .slice none 0 0]
theorem z8i : (Try.prog.info? 27).map (·.size) = some z8.toArray.size := by simp [z8, infoV]
theorem z8o : z8.toArray.all (·.oneCell') = true := by simp [z8, Value.oneCell']
def z0 : Vl := .mk 0 false 0 0 { data := #[] } { data := #[] } .nil .nil
theorem OwC.zero (w : World) : OwC w z0 z8 [] := by
  unfold z0 OwC
  exact ⟨none, 0, 0, none, 0, 0, [], [], rfl, .inl ⟨rfl, rfl, rfl, rfl⟩, .inl ⟨rfl, rfl, rfl, rfl⟩, Nat.le_refl _, Nat.le_refl _, fun _ => rfl, fun _ => rfl, rfl, rfl, Nat.zero_le _, Nat.zero_le _, Nat.zero_le _, Nat.zero_le _, rfl⟩
set_option maxHeartbeats 6000000 in
set_option maxRecDepth 6000 in
theorem get_ok (v : Vl) (cs : List Value) (w : World) (hv : VlC w v cs) (hsm : Small v) (ap : Option Addr) (n c : Nat) (ss : List St) (hp : Pth w ap n ss) (hn : n ≤ 4611686018427387903) :
    Calls Try.prog 16 #[.agg cs.toArray, .slice ap n c] w fun e w' => Below w.heap.size w w' ∧ ∃ (ok : Bool) (u : Vl) (ds : List Value), e = .returned (.tuple #[.agg ds.toArray, .bool ok]) ∧ FrC w.heap.size w' u ds ∧ (if ok = true then getP v ss = some u else getP v ss = none ∧ u = z0) := by
  have hnil : ∀ (w : World) (a : Option Addr), (binOp .eql 70 (.pointer a) (.pointer none)).run Try.prog w = .ok (.bool a.isNone) w := by
    intro w a
    cases a <;> go_simp
  have HV := hide hv
  have HP := hide hp
  have h8 := hide hv.cells
  clear hv hp
  go_enter Try.func16, Try.ntmps16
  go_wp2_with fail
  obtain ⟨W, eW⟩ : ∃ W, W = ((w.alloc (.cells cs.toArray 27)).alloc (.cells #[.int .i64 0, .bool false, .int .i64 0, .float .f64 0, .string { data := #[] }, .string { data := #[] }, .slice none 0 0, .slice none 0 0] 27)) := ⟨_, rfl⟩
  have bW : Below w.heap.size w W := by rw [eW]; exact ((Below.refl _ _).alloc (Nat.le_refl _) _).alloc (by simp) _
  have hsz : W.heap.size = w.heap.size + 2 := by rw [eW]; simp
  have hrow : Row8 W w.heap.size 0 cs := fun j u hu => by
    rw [Nat.zero_add, eW, World.cell?_alloc_past _ _ _ (by simp), World.cell?_alloc_at _ _ _ _ rfl]; simpa using hu
  have hth : W.there (w.heap.size + 1) 0 8 := by
    rw [eW]
    have h := there_new (w := w.alloc (.cells cs.toArray 27)) (Z := #[.int .i64 0, .bool false, .int .i64 0, .float .f64 0, .string { data := #[] }, .string { data := #[] }, .slice none 0 0, .slice none 0 0]) (t := 27) (n := 8) rfl
    simpa using h
  rw [← eW]
  clear eW
  have hvW := VlC.below bW v cs (unhide HV)
  refine (lead_ok (fun k b o u us => getP v (ss.take k) = some u ∧ Row8 W b o us ∧ VlC W u us) W ap n c ss ((unhide HP).below bW) hn w.heap.size 0 v cs ⟨rfl, hrow, hvW⟩ (fun k b o u us h => h.2) (fun k b o u us s i b' o' h hs hc hl => by
    obtain ⟨u', us', h1, h2, h3⟩ := h.2.2.child hc hl
    exact ⟨u', us', by rw [getP_take h.1 hs]; exact h1, h2, h3⟩)).mono ?_
  rintro e w1 ⟨b1, h1⟩
  have hlen := (unhide HP).len
  have hT1 := hide (there_below hth b1 (by omega))
  rcases h1 with ⟨k, b, o, u, us, s, ⟨hg, -, -⟩, hs, hc, rfl⟩ | ⟨b, o, u, us, ⟨hg, hr, hu⟩, rfl⟩
  · have hno := hide (getP_none hg hs hc)
    clear hg hs hc hrow hvW hth hlen
    go_wp2_with (first
      | refine wpList_store_mid (by rfl) 27 _ _ (by rfl) (w.heap.size + 1) 0 z8.toArray (by rfl) (by rfl) (unhide hT1) z8i z8o ?_)
    have hr4 : (w1.setCells (w.heap.size + 1) 0 z8).rangeAt (w.heap.size + 1) 0 z8 := World.rangeAt_setCells_same _ _ _ _ (unhide hT1)
    refine bodyPost_ret (rgn.result_row_tmp rfl _ _ (w.heap.size + 1) 0 z8 _ rfl hr4 Try.underlying27 rfl z8i) rfl ?_
    exact ⟨below_setCells _ _ _ _ (bW.trans (b1.mono bW.size)) (Nat.le_succ _), false, z0, z8, rfl, FrC.of (OwC.zero _) (by simp), by simp; exact unhide hno⟩
  · have hg' := hide (show getP v ss = some u by rwa [List.take_of_length_le (Nat.le_of_eq hlen)] at hg)
    have hr1 := hide (Row8.below hr b1)
    have hu1 := hide (VlC.below b1 u us hu)
    have hi8 : (Try.prog.info? 27).map (·.size) = some us.length := by rw [hu.cells]; exact infoV
    have Hi8 := hide hi8
    clear hg hrow hvW hth hlen hr hu hi8
    go_wp2_with (first
      | refine wpList_load_mid (by rfl) 27 _ (by rfl) b o (by rfl) us _ (unhide hr1) Try.underlying27 (by rfl) (unhide Hi8) ?_)
    have hsu := Small.getP hsm (unhide hg')
    refine (copy_ok u hsu us w1 (unhide hu1)).mono ?_
    rintro e w2 ⟨ds, F, rfl, hO2, hnd, hF, b2, -⟩
    have hT2 : w2.there (w.heap.size + 1) 0 ds.toArray.size := by
      rw [show ds.toArray.size = 8 by simp [(OwC.read u ds F hO2).cells]]
      exact there_below (unhide hT1) b2 (by have := b1.size; omega)
    have i8 : (Try.prog.info? 27).map (·.size) = some ds.toArray.size := by simp [(OwC.read u ds F hO2).cells, infoV]
    have d1 := (OwC.read u ds F hO2).one
    have HT := hide hT2
    have HI := hide i8
    have HO := hide hO2
    clear hT2 i8 hO2
    go_wp2_with (first
      | refine wpList_store_mid (by rfl) 27 _ _ (by rfl) (w.heap.size + 1) 0 ds.toArray (by rfl) (by rfl) (unhide HT) (unhide HI) d1 ?_)
    have hr4 : (w2.setCells (w.heap.size + 1) 0 ds).rangeAt (w.heap.size + 1) 0 ds := World.rangeAt_setCells_same _ _ _ _ (unhide HT)
    refine bodyPost_ret (rgn.result_row_tmp rfl _ _ (w.heap.size + 1) 0 ds _ rfl hr4 Try.underlying27 rfl (unhide HI)) rfl ?_
    have hnF : w.heap.size + 1 ∉ F := fun h => by have := (hF _ h).1; have := b1.size; omega
    exact ⟨below_setCells _ _ _ _ ((bW.trans (b1.mono bW.size)).trans (b2.mono (Nat.le_trans bW.size b1.size))) (Nat.le_succ _), true, u, ds, rfl, FrC.of (OwC.agree u ds F (agree_setCells w2 hnF) (unhide HO)) (fun b hb => by have h1 := hF b hb; have h2 := b1.size; rw [size_setCells]; omega), by rw [if_pos rfl]; exact unhide hg'⟩
end Go.Proofs.Ythpcpminikmcbaa.vl
