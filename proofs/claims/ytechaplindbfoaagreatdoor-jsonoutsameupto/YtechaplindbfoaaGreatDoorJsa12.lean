import Derived.Test.YtechaplindbfoaaGreatDoorJsa11
namespace Go.Proofs.YtechaplindbfoaaGreatDoor.jsn
open Go.ChangeShapes Go.WideShapes Go.ChangeAt Go.RowKit
open mem
open vl hiding hide unhide Hid
open ints (hide unhide)
set_option linter.unusedVariables false
set_option linter.unusedSimpArgs false
def hcl (c : UInt8) : Int := if c = 110 then 0 else if c = 116 ∨ c = 102 then 1 else if c = 34 then 4 else if c = 91 then 5 else if c = 123 then 6 else if NC c = true then 2 else 9
theorem hcl_all : ∀ i : Fin 256, NC (UInt8.ofNat i.val) = true → hcl (UInt8.ofNat i.val) = 2 := by decide +kernel
theorem hcl_nc {c : UInt8} (h : NC c = true) : hcl c = 2 := by
  obtain ⟨i, rfl⟩ := u8_fin c
  exact hcl_all i h
theorem nc_digs {D : List UInt8} (h : Dgs D) : ∀ c ∈ D, NC c = true := fun c hc => by
  obtain ⟨h1, h2⟩ := h c hc
  unfold NC
  simp [h1, h2]
theorem itoa_nc (n : Int) : ∀ c ∈ Lib.itoa n, NC c = true ∧ c ≠ 46 ∧ c ≠ 101 := by
  have hd : ∀ u : Nat, ∀ c ∈ Lib.decDigits u, NC c = true ∧ c ≠ 46 ∧ c ≠ 101 := fun u c hc => by
    have h1 := dec_digs u c hc
    exact ⟨nc_digs (dec_digs u) c hc, fun e => by subst e; exact absurd h1 (by decide), fun e => by subst e; exact absurd h1 (by decide)⟩
  unfold Lib.itoa
  split
  · intro c hc
    rcases List.mem_cons.1 hc with rfl | hc
    · decide
    · exact hd _ c hc
  · exact hd _
theorem itoa_ne (n : Int) : Lib.itoa n ≠ [] := by
  unfold Lib.itoa
  split
  · simp
  · obtain ⟨c, r, e⟩ := dec_ne n.toNat
    rw [e]
    simp
theorem lay_nc (D : List UInt8) (p : Int) (hD : Dgs D) : (∀ c ∈ layL D p, NC c = true) ∧ ∃ c ∈ layL D p, c = 46 ∨ c = 101 := by
  have h46 : NC 46 = true := by decide
  have h48 : NC 48 = true := by decide
  have h101 : NC 101 = true := by decide
  have hr := fun n => nc_digs (rep_digs n)
  have hd := nc_digs hD
  have ht := fun n => nc_digs (hD.take n)
  have hp := fun n => nc_digs (hD.drop n)
  have app : ∀ {a b : List UInt8}, (∀ c ∈ a, NC c = true) → (∀ c ∈ b, NC c = true) → ∀ c ∈ a ++ b, NC c = true := fun ha hb c hc => by
    rcases List.mem_append.1 hc with h | h
    · exact ha c h
    · exact hb c h
  have con : ∀ {x : UInt8} {b : List UInt8}, NC x = true → (∀ c ∈ b, NC c = true) → ∀ c ∈ x :: b, NC c = true := fun ha hb c hc => by
    rcases List.mem_cons.1 hc with rfl | h
    · exact ha
    · exact hb c h
  have hi : ∀ c ∈ Lib.itoa (p - 1), NC c = true := fun c hc => (itoa_nc _ c hc).1
  unfold layL
  split
  · refine ⟨app ?_ (con h101 hi), 101, by simp, .inr rfl⟩
    split
    · exact app (ht 1) (con h46 (hp 1))
    · exact ht 1
  · split
    · exact ⟨con h48 (con h46 (app (hr _) hd)), 46, by simp, .inl rfl⟩
    · split
      · exact ⟨app hd (app (hr _) (con h46 (con h48 (fun c hc => by cases hc)))), 46, by simp, .inl rfl⟩
      · exact ⟨app (ht _) (con h46 (hp _)), 46, by simp, .inl rfl⟩
theorem ft_nc {x : Nat} (h : x < 18446744073709551616) (hb : fto.badF x = false) {w : World} (hF : fto.Fx w) : (∀ c ∈ (ftZ x).data.toList, NC c = true) ∧ ∃ c ∈ (ftZ x).data.toList, c = 46 ∨ c = 101 := by
  obtain ⟨D, p, FD, e⟩ := ft_form h hb hF
  obtain ⟨h1, c, h2, h3⟩ := lay_nc D p FD.dig
  rw [e]
  refine ⟨fun c hc => ?_, c, List.mem_append_right _ h2, h3⟩
  rcases List.mem_append.1 hc with g | g
  · unfold fto.sgB at g
    split at g
    · have : c = 45 := by simpa using g
      subst this
      decide
    · simp at g
  · exact h1 c g
def kcl : Vl → Int
  | .mk kd _ _ _ _ _ _ _ => if kd = 3 then 2 else kd
theorem flV_f {kd : Int} {b : Bool} {n : Int} {f : Nat} {tx ty : ByteArray} {its : Vls} {fls : Fls} (h : FlV (.mk kd b n f tx ty its fls)) : f < 18446744073709551616 ∧ FlI its ∧ FlF fls := by
  unfold FlV at h
  exact ⟨h.2.1, h.2.2.1, h.2.2.2⟩
/-- what a value's text opens with -/
theorem js_head {w : World} (hF : fto.Fx w) : ∀ (v : Vl), jfE v = 0 → FlV v → ∃ c r, js NZ v = c :: r ∧ hcl c = kcl v ∧ kcl v ≠ 9 := by
  intro v h hf
  obtain ⟨kd, b, n, f, tx, ty, its, fls⟩ := v
  have num : ∀ l : List UInt8, l ≠ [] → (∀ c ∈ l, NC c = true) → ∃ c r, l = c :: r ∧ hcl c = 2 := fun l hl hn => by
    cases l with
    | nil => exact absurd rfl hl
    | cons c r => exact ⟨c, r, rfl, hcl_nc (hn c (List.mem_cons_self ..))⟩
  rcases jf_kinds _ _ _ _ _ _ _ h with rfl | rfl | rfl | ⟨rfl, hb⟩ | rfl | ⟨rfl, hL⟩ | ⟨rfl, hO⟩
  · exact ⟨_, _, js_0 .., by rfl, by simp [kcl]⟩
  · rw [js_1]
    split
    · exact ⟨_, _, rfl, by rfl, by simp [kcl]⟩
    · exact ⟨_, _, rfl, by rfl, by simp [kcl]⟩
  · rw [js_2]
    obtain ⟨c, r, e, hc⟩ := num _ (itoa_ne n) (fun c hc => (itoa_nc n c hc).1)
    exact ⟨c, r, e, hc, by simp [kcl]⟩
  · rw [js_3]
    obtain ⟨h1, c0, h2, -⟩ := ft_nc (flV_f hf).1 hb hF
    obtain ⟨c, r, e, hc⟩ := num _ (List.ne_nil_of_mem h2) h1
    exact ⟨c, r, e, hc, by simp [kcl]⟩
  · rw [js_4]
    exact ⟨_, _, rfl, by rfl, by simp [kcl]⟩
  · rw [js_5]
    exact ⟨_, _, rfl, by rfl, by simp [kcl]⟩
  · rw [js_6]
    exact ⟨_, _, rfl, by rfl, by simp [kcl]⟩
section ords
variable (b b' : Bool) (n n' : Int) (f f' : Nat) (tx tx' ty ty' : ByteArray) (its its' : Vls) (fls fls' : Fls)
theorem ord_0 : og.ordV (.mk 0 b n f tx ty its fls) (.mk 0 b' n' f' tx' ty' its' fls') = 0 := by unfold og.ordV; rfl
theorem ord_1 : og.ordV (.mk 1 b n f tx ty its fls) (.mk 1 b' n' f' tx' ty' its' fls') = og.cBo b b' := by unfold og.ordV; rfl
theorem ord_2 : og.ordV (.mk 2 b n f tx ty its fls) (.mk 2 b' n' f' tx' ty' its' fls') = stp.c3 n n' := by unfold og.ordV; rfl
theorem ord_3 : og.ordV (.mk 3 b n f tx ty its fls) (.mk 3 b' n' f' tx' ty' its' fls') = og.cFl f f' := by unfold og.ordV; rfl
theorem ord_4 : og.ordV (.mk 4 b n f tx ty its fls) (.mk 4 b' n' f' tx' ty' its' fls') = stp.cB tx tx' := by unfold og.ordV; rfl
theorem ord_5 : og.ordV (.mk 5 b n f tx ty its fls) (.mk 5 b' n' f' tx' ty' its' fls') = og.ordI its its' := by unfold og.ordV; rfl
theorem ord_6 : og.ordV (.mk 6 b n f tx ty its fls) (.mk 6 b' n' f' tx' ty' its' fls') = og.ordF fls fls' := by unfold og.ordV; rfl
end ords
theorem ord_kd {kd kd' : Int} {b b' : Bool} {n n' : Int} {f f' : Nat} {tx tx' ty ty' : ByteArray} {its its' : Vls} {fls fls' : Fls} (h0 : 0 ≤ kd) (h1 : kd ≤ 7) (h0' : 0 ≤ kd') (h1' : kd' ≤ 7) (h : og.ordV (.mk kd b n f tx ty its fls) (.mk kd' b' n' f' tx' ty' its' fls') = 0) : kd = kd' := by
  have e : ∀ k : Int, 0 ≤ k → k ≤ 7 → og.kdOf k = k := fun k a c => by unfold og.kdOf; rw [if_neg (by omega)]
  unfold og.ordV at h
  rw [e kd h0 h1, e kd' h0' h1'] at h
  split at h
  · rename_i g
    exact og.c3_zero g
  · rename_i g
    exact absurd h g
theorem cB_eq {a b : ByteArray} (h : stp.cB a b = 0) : a = b := by
  rcases stp.cB_tri a b with ⟨e, -⟩ | ⟨-, -, e⟩ | ⟨e, -⟩
  · rw [e] at h; cases h
  · exact e
  · rw [e] at h; cases h
theorem cB_same (a : ByteArray) : stp.cB a a = 0 := by
  rcases stp.cB_tri a a with ⟨-, -, e⟩ | ⟨e, -⟩ | ⟨-, -, e⟩
  · exact absurd rfl e
  · exact e
  · exact absurd rfl e
theorem bad_nan {f : Nat} (h : fto.badF f = false) : vl.nanF f = false := by
  unfold fto.badF at h
  unfold vl.nanF
  simp only [decide_eq_false_iff_not] at h ⊢
  omega
theorem cFl_z {f f' : Nat} (h : f < 18446744073709551616) (h' : f' < 18446744073709551616) (hb : fto.badF f = false) (hb' : fto.badF f' = false) : og.cFl f f' = 0 ↔ f = f' := by
  have := og.cFl_num f f' h h' (bad_nan hb) (bad_nan hb')
  rw [Bool.eq_iff_iff] at this
  simpa using this
/-- texts that go on alike: the same value, the same rest -/
def PJ (v : Vl) : Prop := jfE v = 0 → FlV v → ∀ u, jfE u = 0 → FlV u → ∀ s t, Endy s → Endy t → js NZ v ++ s = js NZ u ++ t → og.ordV v u = 0 ∧ s = t
theorem endJ (r : Vls) (c : UInt8) (hc : c = 93 ∨ c = 125) (s : List UInt8) : Endy (lJ false r ++ c :: s) := by
  cases r with
  | nil => exact .inr ⟨c, s, by simp [lJ], .inr hc⟩
  | cons v r => exact .inr ⟨44, js NZ v ++ lJ false r ++ c :: s, by simp [lJ], .inl rfl⟩
theorem endF (r : Fls) (c : UInt8) (hc : c = 93 ∨ c = 125) (s : List UInt8) : Endy (lF false r ++ c :: s) := by
  cases r with
  | nil => exact .inr ⟨c, s, by simp [lF], .inr hc⟩
  | cons nm v r => exact .inr ⟨44, txt nm.data.toList ++ (58 :: (js NZ v ++ lF false r)) ++ c :: s, by simp [lF], .inl rfl⟩
theorem lJ_inj {w : World} (hF : fto.Fx w) : ∀ (a : Vls), (∀ v ∈ a.list, PJ v) → ∀ (f : Bool) (b : Vls) (s t : List UInt8), jfL a = 0 → FlI a → jfL b = 0 → FlI b → lJ f a ++ 93 :: s = lJ f b ++ 93 :: t → og.ordI a b = 0 ∧ s = t
  | .nil, _, f, .nil, s, t, _, _, _, _, h => by
    simp only [lJ, List.nil_append, List.cons.injEq, true_and] at h
    exact ⟨by unfold og.ordI; rfl, h⟩
  | .nil, _, f, .cons u q, s, t, _, _, hb, fb, h => by
    exfalso
    obtain ⟨c, r, e, h1, h2⟩ := js_head hF u (jfL_all.1 hb u (by simp [Vls.list])) (fb.all u (by simp [Vls.list]))
    simp only [lJ, e] at h
    cases f with
    | true =>
      simp at h
      rw [← h.1] at h1
      exact h2 (by rw [← h1]; decide)
    | false => simp at h
  | .cons v r, _, f, .nil, s, t, ha, fa, _, _, h => by
    exfalso
    obtain ⟨c, r', e, h1, h2⟩ := js_head hF v (jfL_all.1 ha v (by simp [Vls.list])) (fa.all v (by simp [Vls.list]))
    simp only [lJ, e] at h
    cases f with
    | true =>
      simp at h
      rw [h.1] at h1
      exact h2 (by rw [← h1]; decide)
    | false => simp at h
  | .cons v r, hP, f, .cons u q, s, t, ha, fa, hb, fb, h => by
    have e : js NZ v ++ (lJ false r ++ 93 :: s) = js NZ u ++ (lJ false q ++ 93 :: t) := by
      simp only [lJ, List.append_assoc] at h
      exact List.append_cancel_left h
    have ha' := jfL_all.1 ha
    have hb' := jfL_all.1 hb
    simp only [Vls.list, List.mem_cons, forall_eq_or_imp] at ha' hb' hP
    unfold FlI at fa fb
    obtain ⟨h1, h2⟩ := hP.1 ha'.1 fa.1 u hb'.1 fb.1 _ _ (endJ r 93 (.inl rfl) s) (endJ q 93 (.inl rfl) t) e
    obtain ⟨h3, h4⟩ := lJ_inj hF r hP.2 false q s t (jfL_all.2 ha'.2) fa.2 (jfL_all.2 hb'.2) fb.2 h2
    exact ⟨by rw [og.ordI, if_pos h1, h3], h4⟩
theorem lF_inj {w : World} (hF : fto.Fx w) : ∀ (a : Fls), (∀ q ∈ a.list, PJ q.2) → ∀ (f : Bool) (b : Fls) (s t : List UInt8), jfF a = 0 → FlF a → jfF b = 0 → FlF b → lF f a ++ 125 :: s = lF f b ++ 125 :: t → og.ordF a b = 0 ∧ s = t
  | .nil, _, f, .nil, s, t, _, _, _, _, h => by
    simp only [lF, List.nil_append, List.cons.injEq, true_and] at h
    exact ⟨by unfold og.ordF; rfl, h⟩
  | .nil, _, f, .cons nm u q, s, t, _, _, hb, fb, h => by
    exfalso
    simp only [lF, txt] at h
    cases f with
    | true => simp at h
    | false => simp at h
  | .cons nm v r, _, f, .nil, s, t, ha, fa, _, _, h => by
    exfalso
    simp only [lF, txt] at h
    cases f with
    | true => simp at h
    | false => simp at h
  | .cons nm v r, hP, f, .cons nm' u q, s, t, ha, fa, hb, fb, h => by
    have e : txt nm.data.toList ++ (58 :: (js NZ v ++ (lF false r ++ 125 :: s))) = txt nm'.data.toList ++ (58 :: (js NZ u ++ (lF false q ++ 125 :: t))) := by
      simp only [lF, List.append_assoc, List.cons_append] at h
      exact List.append_cancel_left h
    obtain ⟨e1, e2⟩ := txt_inj e
    have hnm : nm = nm' := str_eq e1
    subst hnm
    simp only [List.cons.injEq, true_and] at e2
    have ha' := jfF_all.1 ha
    have hb' := jfF_all.1 hb
    simp only [Fls.list, List.mem_cons, forall_eq_or_imp] at ha' hb' hP
    unfold FlF at fa fb
    obtain ⟨h1, h2⟩ := hP.1 ha'.1 fa.1 u hb'.1 fb.1 _ _ (endF r 125 (.inr rfl) s) (endF q 125 (.inr rfl) t) e2
    obtain ⟨h3, h4⟩ := lF_inj hF r hP.2 false q s t (jfF_all.2 ha'.2) fa.2 (jfF_all.2 hb'.2) fb.2 h2
    exact ⟨by rw [og.ordF, cB_same, if_pos rfl, if_pos h1, h3], h4⟩
theorem js_inj {w : World} (hF : fto.Fx w) : ∀ v, PJ v := by
  refine Vl.all ?_
  intro kd b n f tx ty its fls hI hO h hf u h' hf' s t hs ht e
  have hc : kcl (.mk kd b n f tx ty its fls) = kcl u := by
    obtain ⟨c, r, e1, h1, -⟩ := js_head hF _ h hf
    obtain ⟨c', r', e2, h2, -⟩ := js_head hF u h' hf'
    rw [e1, e2] at e
    injection e with e3 e4
    rw [← h1, ← h2, e3]
  obtain ⟨kd', b', n', f', tx', ty', its', fls'⟩ := u
  obtain ⟨f1, f2, f3⟩ := flV_f hf
  obtain ⟨f1', f2', f3'⟩ := flV_f hf'
  rcases jf_kinds _ _ _ _ _ _ _ h with rfl | rfl | rfl | ⟨rfl, hb⟩ | rfl | ⟨rfl, hL⟩ | ⟨rfl, hM⟩ <;> rcases jf_kinds _ _ _ _ _ _ _ h' with rfl | rfl | rfl | ⟨rfl, hb'⟩ | rfl | ⟨rfl, hL'⟩ | ⟨rfl, hM'⟩ <;> try (exfalso; simp [kcl] at hc; done)
  · rw [js_0, js_0] at e
    exact ⟨ord_0 .., List.append_cancel_left e⟩
  · rw [js_1, js_1] at e
    cases b <;> cases b' <;> simp at e
    · exact ⟨by rw [ord_1]; rfl, e⟩
    · exact ⟨by rw [ord_1]; rfl, e⟩
  · rw [js_2, js_2] at e
    obtain ⟨e1, e2⟩ := span_eq hs ht (fun c hc => (itoa_nc n c hc).1) (fun c hc => (itoa_nc n' c hc).1) e
    exact ⟨by rw [ord_2]; exact stp.c3_eq (itoa_inj e1), e2⟩
  · rw [js_2, js_3] at e
    obtain ⟨g1, c, g2, g3⟩ := ft_nc f1' hb' hF
    obtain ⟨e1, -⟩ := span_eq hs ht (fun c hc => (itoa_nc n c hc).1) g1 e
    rw [← e1] at g2
    obtain ⟨-, a1, a2⟩ := itoa_nc n c g2
    rcases g3 with rfl | rfl
    · exact absurd rfl a1
    · exact absurd rfl a2
  · rw [js_3, js_2] at e
    obtain ⟨g1, c, g2, g3⟩ := ft_nc f1 hb hF
    obtain ⟨e1, -⟩ := span_eq hs ht g1 (fun c hc => (itoa_nc n' c hc).1) e
    rw [e1] at g2
    obtain ⟨-, a1, a2⟩ := itoa_nc n' c g2
    rcases g3 with rfl | rfl
    · exact absurd rfl a1
    · exact absurd rfl a2
  · rw [js_3, js_3] at e
    obtain ⟨e1, e2⟩ := span_eq hs ht (ft_nc f1 hb hF).1 (ft_nc f1' hb' hF).1 e
    exact ⟨by rw [ord_3]; exact (cFl_z f1 f1' hb hb').2 (ft_inj f1 hb f1' hb' hF e1), e2⟩
  · rw [js_4, js_4] at e
    obtain ⟨e1, e2⟩ := txt_inj e
    rw [str_eq e1]
    exact ⟨by rw [ord_4]; exact cB_same _, e2⟩
  · rw [js_5, js_5] at e
    simp only [List.cons_append, List.append_assoc, List.cons.injEq, true_and, List.nil_append] at e
    obtain ⟨e1, e2⟩ := lJ_inj hF its hI true its' s t hL f2 hL' f2' e
    exact ⟨by rw [ord_5]; exact e1, e2⟩
  · rw [js_6, js_6] at e
    simp only [List.cons_append, List.append_assoc, List.cons.injEq, true_and, List.nil_append] at e
    obtain ⟨e1, e2⟩ := lF_inj hF fls hO true fls' s t hM f3 hM' f3' e
    exact ⟨by rw [ord_6]; exact e1, e2⟩
/-- values that are level have one text -/
def QJ (v : Vl) : Prop := jfE v = 0 → FlV v → ∀ u, jfE u = 0 → FlV u → og.ordV v u = 0 → js NZ v = js NZ u
theorem lJ_lev : ∀ (a : Vls), (∀ v ∈ a.list, QJ v) → ∀ (f : Bool) (b : Vls), jfL a = 0 → FlI a → jfL b = 0 → FlI b → og.ordI a b = 0 → lJ f a = lJ f b
  | .nil, _, f, .nil, _, _, _, _, _ => rfl
  | .nil, _, f, .cons u q, _, _, _, _, h => by unfold og.ordI at h; cases h
  | .cons v r, _, f, .nil, _, _, _, _, h => by unfold og.ordI at h; cases h
  | .cons v r, hP, f, .cons u q, ha, fa, hb, fb, h => by
    have ha' := jfL_all.1 ha
    have hb' := jfL_all.1 hb
    simp only [Vls.list, List.mem_cons, forall_eq_or_imp] at ha' hb' hP
    unfold FlI at fa fb
    rw [og.ordI] at h
    split at h
    · rename_i h1
      rw [lJ, lJ, hP.1 ha'.1 fa.1 u hb'.1 fb.1 h1, lJ_lev r hP.2 false q (jfL_all.2 ha'.2) fa.2 (jfL_all.2 hb'.2) fb.2 h]
    · rename_i h1
      exact absurd h h1
theorem lF_lev : ∀ (a : Fls), (∀ q ∈ a.list, QJ q.2) → ∀ (f : Bool) (b : Fls), jfF a = 0 → FlF a → jfF b = 0 → FlF b → og.ordF a b = 0 → lF f a = lF f b
  | .nil, _, f, .nil, _, _, _, _, _ => rfl
  | .nil, _, f, .cons nm u q, _, _, _, _, h => by unfold og.ordF at h; cases h
  | .cons nm v r, _, f, .nil, _, _, _, _, h => by unfold og.ordF at h; cases h
  | .cons nm v r, hP, f, .cons nm' u q, ha, fa, hb, fb, h => by
    have ha' := jfF_all.1 ha
    have hb' := jfF_all.1 hb
    simp only [Fls.list, List.mem_cons, forall_eq_or_imp] at ha' hb' hP
    unfold FlF at fa fb
    rw [og.ordF] at h
    by_cases h2 : stp.cB nm nm' = 0
    · rw [if_pos h2] at h
      by_cases h1 : og.ordV v u = 0
      · rw [if_pos h1] at h
        rw [lF, lF, cB_eq h2, hP.1 ha'.1 fa.1 u hb'.1 fb.1 h1, lF_lev r hP.2 false q (jfF_all.2 ha'.2) fa.2 (jfF_all.2 hb'.2) fb.2 h]
      · rw [if_neg h1] at h
        exact absurd h h1
    · rw [if_neg h2, if_neg h2] at h
      exact absurd h h2
theorem js_lev : ∀ v, QJ v := by
  refine Vl.all ?_
  intro kd b n f tx ty its fls hI hO h hf u h' hf' e
  obtain ⟨kd', b', n', f', tx', ty', its', fls'⟩ := u
  obtain ⟨f1, f2, f3⟩ := flV_f hf
  obtain ⟨f1', f2', f3'⟩ := flV_f hf'
  have k1 := jf_kinds _ _ _ _ _ _ _ h
  have k2 := jf_kinds _ _ _ _ _ _ _ h'
  obtain rfl : kd = kd' := ord_kd (by omega) (by omega) (by omega) (by omega) e
  rcases k1 with rfl | rfl | rfl | ⟨rfl, hb⟩ | rfl | ⟨rfl, hL⟩ | ⟨rfl, hM⟩
  · rw [js_0, js_0]
  · rw [ord_1] at e
    rw [js_1, js_1]
    cases b <;> cases b' <;> first | rfl | cases e
  · rw [ord_2] at e
    rw [js_2, js_2, og.c3_zero e]
  · rw [ord_3] at e
    have hb' : fto.badF f' = false := by
      rcases k2 with g | g | g | g | g | g | g <;> first | exact g.2 | omega
    rw [js_3, js_3, (cFl_z f1 f1' hb hb').1 e]
  · rw [ord_4] at e
    rw [js_4, js_4, cB_eq e]
  · rw [ord_5] at e
    have hL' : jfL its' = 0 := by
      rcases k2 with g | g | g | g | g | g | g <;> first | exact g.2 | omega
    rw [js_5, js_5, lJ_lev its hI true its' hL f2 hL' f2' e]
  · rw [ord_6] at e
    have hM' : jfF fls' = 0 := by
      rcases k2 with g | g | g | g | g | g | g <;> first | exact g.2 | omega
    rw [js_6, js_6, lF_lev fls hO true fls' hM f3 hM' f3' e]
/-- the same text just where the order is level -/
theorem js_same {w : World} (hF : fto.Fx w) {v u : Vl} (h : jfE v = 0) (hf : FlV v) (h' : jfE u = 0) (hf' : FlV u) : js NZ v = js NZ u ↔ og.ordV v u = 0 := by
  constructor
  · intro e
    exact (js_inj hF v h hf u h' hf' [] [] (.inl rfl) (.inl rfl) (by rw [e])).1
  · exact js_lev v h hf u h' hf'
end Go.Proofs.YtechaplindbfoaaGreatDoor.jsn
