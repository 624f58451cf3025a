import Derived.Test.YtjlaoeigfokkiaaGreatDoorNri6
namespace Go.Proofs.YtjlaoeigfokkiaaGreatDoor.fto
open Go.ChangeShapes Go.WideShapes Go.ChangeAt Go.RowKit
open mem Go.Sort
open ints (hide unhide)
set_option linter.unusedVariables false
set_option linter.unusedSimpArgs false
/-- the text of digits behind the point, and an exponent -/
theorem rises_num (X : List Int) (hX : Dg X) (p : Int) (h0 : X ≠ []) : NumT (bytZ (strOfNums ([48, 46] ++ X ++ ([101] ++ itZ p)))) false [48] X (some (101, (if p < 0 then some true else none), dz p.natAbs)) := by
  have hbt : Bt ([48, 46] ++ X ++ ([101] ++ itZ p)) := ((Bt.cons (by omega) (Bt.cons (by omega) Bt.nil)).app hX.bt).app ((Bt.cons (by omega) Bt.nil).app (itZ_bt p))
  rw [bytZ_str _ hbt]
  refine ⟨?_, ⟨fun z hz => by simp at hz; omega, by simp, fun r e => by simpa using e.symm⟩, hX, fun q hq => ?_⟩
  · unfold itZ exA frL
    rw [if_neg h0]
    by_cases hp : p < 0
    · rw [decide_eq_true hp, if_pos hp]; simp [sgL, sg3]
    · rw [decide_eq_false hp, if_neg hp]; simp [sgL, sg3]
  · cases hq
    exact ⟨Or.inl rfl, dz_dg _, dz_ne _⟩
theorem toL (X : List Int) : (strOfNums X).toList = u8s X := by
  rw [ByteArray.toList_eq]
  rfl
theorem dv_48 (X : List Int) : dv ([48] ++ X) = dv X := by
  rw [List.singleton_append, dv_cons]
  simp
theorem u8s_inj {X Y : List Int} (hX : Dg X) (hY : Dg Y) (h : u8s X = u8s Y) : X = Y := by
  induction X generalizing Y with
  | nil =>
    cases Y with
    | nil => rfl
    | cons b r => simp [u8s] at h
  | cons a r ih =>
    cases Y with
    | nil => simp [u8s] at h
    | cons b r' =>
      have h' : UInt8.ofNat a.toNat :: u8s r = UInt8.ofNat b.toNat :: u8s r' := h
      obtain ⟨h1, h2⟩ := List.cons.inj h'
      have ha := hX a (by simp)
      have hb := hY b (by simp)
      have := congrArg UInt8.toNat h1
      rw [u8_nat ha, u8_nat hb] at this
      rw [ih hX.tail hY.tail h2, show a = b by omega]
/-- NumberRises -/
theorem law_rises (a a' : Option Addr) (n c n' c' : Nat) (zs ys : List Int) (p : Int) (w : World) (hW : dcm.Fz w) (h : Row .u8 w a n c zs) (h' : Row .u8 w a' n' c' ys) (hz : ∀ z ∈ zs, 0 ≤ z ∧ z ≤ 255) (hy : ∀ z ∈ ys, 0 ≤ z ∧ z ≤ 255)
    (hn : n ≤ 1048576) (hn' : n' ≤ 1048576) (hp : -2147483648 ≤ p ∧ p ≤ 2147483647) :
    Calls Tryz.prog 6 #[.slice a n c, .slice a' n' c', .int .i32 p] w fun e w' => e = .returned (.bool true) ∧ Below w.heap.size w w' := by
  obtain ⟨N, hN⟩ : ∃ N : Nat, N = max (max n n') 1 := ⟨_, rfl⟩
  have hN1 : 1 ≤ N := by omega
  have hN2 : N ≤ 1048576 := by omega
  have hX := dO_dg zs N
  have hY := dO_dg ys N
  have lX := dO_len zs N
  have lY := dO_len ys N
  have hX0 : dO zs N ≠ [] := fun e => by rw [e] at lX; simp at lX; omega
  have hY0 : dO ys N ≠ [] := fun e => by rw [e] at lY; simp at lY; omega
  obtain ⟨R1, hR1⟩ := FlV.some [48] (dO zs N) (some (101, (if p < 0 then some true else none), dz p.natAbs))
  obtain ⟨R2, hR2⟩ := FlV.some [48] (dO ys N) (some (101, (if p < 0 then some true else none), dz p.natAbs))
  have hI := itB_size p (by omega) (by omega)
  have e1 : (⟨#[48, 46]⟩ : ByteArray) ++ strOfNums (dO zs N) ++ ((⟨#[101]⟩ : ByteArray) ++ itB p) = strOfNums ([48, 46] ++ dO zs N ++ ([101] ++ itZ p)) := by
    rw [itB_itZ, show (⟨#[48, 46]⟩ : ByteArray) = strOfNums [48, 46] from rfl, show (⟨#[101]⟩ : ByteArray) = strOfNums [101] from rfl, str_app, str_app, str_app]
  have e2 : (⟨#[48, 46]⟩ : ByteArray) ++ strOfNums (dO ys N) ++ ((⟨#[101]⟩ : ByteArray) ++ itB p) = strOfNums ([48, 46] ++ dO ys N ++ ([101] ++ itZ p)) := by
    rw [itB_itZ, show (⟨#[48, 46]⟩ : ByteArray) = strOfNums [48, 46] from rfl, show (⟨#[101]⟩ : ByteArray) = strOfNums [101] from rfl, str_app, str_app, str_app]
  have sz : ∀ X : List Int, X.length = N → (strOfNums ([48, 46] ++ X ++ ([101] ++ itZ p))).size ≤ 1050000 := by
    intro X hl
    have hi2 : (itZ p).length = (itB p).size := by rw [itB_itZ, str_size]
    rw [str_size]
    simp only [List.length_append, List.length_cons, List.length_nil, hl]
    omega
  have nw : ∀ X : List Int, X ≠ [] → ¬ isW false [48] X (some (101, (if p < 0 then some true else none), dz p.natAbs)) := fun X _ hw => by cases hw.2.1
  refine rises_in a a' n c n' c' N R1 R2 p (strOfNums (dO zs N)) (strOfNums (dO ys N)) (itB p) _ _ _ _ _ w hW (by omega) (by omega) (by omega) hp (by rw [str_size]; omega) (by rw [str_size]; omega) (by omega) rfl rfl rfl rfl rfl
    (fun W hb _ => digitsOf_ok a n c zs N W (h.below hb) hz hN1 (by omega) (by omega))
    (fun W hb _ => digitsOf_ok a' n' c' ys N W (h'.below hb) hy hN1 (by omega) (by omega))
    (fun W hW' => whole_ok p (by omega) (by omega) W hW'.fy.fx)
    (fun W hW' => by rw [e1]; exact float_ok _ (sz _ lX) [48] (dO zs N) _ (rises_num _ hX p hX0) (nw _ hX0) R1 hR1 W hW')
    (fun W hW' => by rw [e2]; exact float_ok _ (sz _ lY) [48] (dO ys N) _ (rises_num _ hY p hY0) (nw _ hY0) R2 hR2 W hW') ?_
  rw [toL, toL, less_num _ _ hX hY (by rw [lX, lY])]
  by_cases hlt : dv (dO zs N) < dv (dO ys N)
  · left
    refine ⟨decide_eq_true hlt, ord_le (FlV.mono (by rw [lX, lY]) ?_ hR1 hR2) hR2.le⟩
    rw [dv_48, dv_48]; omega
  · right
    have hge : R2 ≤ R1 := FlV.mono (by rw [lX, lY]) (by rw [dv_48, dv_48]; omega) hR2 hR1
    cases hq : (u8s (dO zs N) == u8s (dO ys N))
    · left
      exact ⟨decide_eq_false hlt, rfl, ord_le hge hR1.le⟩
    · right
      have he := u8s_inj hX hY (by simpa using hq)
      rw [he] at hR1
      have hRe := hR1.uni hR2
      subst hRe
      have : FloatKind.f64.format.order R1 R1 = some .eq := by
        have := dcm.ord_eq 0 R1 R1 false (by simp) hR1.le hR1.le
        rw [Nat.zero_add, decide_eq_true rfl] at this
        simpa using this
      exact ⟨decide_eq_false hlt, rfl, this, this⟩
end Go.Proofs.YtjlaoeigfokkiaaGreatDoor.fto
