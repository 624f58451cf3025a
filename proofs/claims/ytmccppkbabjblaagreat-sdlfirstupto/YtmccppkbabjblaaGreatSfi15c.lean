import Derived.Test.YtmccppkbabjblaaGreatSfi15b
set_option linter.unusedVariables false
set_option linter.unusedSimpArgs false
namespace Go.Proofs.YtmccppkbabjblaaGreat.cu
open Go.ChangeShapes Go.WideShapes Go.ChangeAt Go.RowKit
open ints (hide unhide)
open dt (Dt Kp RowAt Ow Grow OwIn)
section
variable (N : Nat)
theorem nmd_m (s : Sy) : Dm (nmdT s) := namR_m.bnd fun _ => ret_m _
theorem sch_m (s : Sy) : Dm (schT (litF true N) s) := (dirs_m _).bnd fun _ => (isPR_m _).bnd fun q => (cond_m (brkT_m _ _ _) (ret_m _)).bnd fun _ => ret_m _
theorem sca_m (s : Sy) : Dm (scaT (litF true N) s) := (nmd_m s).bnd fun _ => (dirs_m _).bnd fun _ => ret_m _
theorem obj_m (s : Sy) : Dm (objT (typF N) (litF true N) N s) := (nmd_m s).bnd fun _ => (wordR_m _).bnd fun q => (cond_m (parT_m namR_m N bAmp) (ret_m _)).bnd fun _ => (dirs_m _).bnd fun _ => (optT_m _ _ _).bnd fun _ => ret_m _
theorem uni_m (s : Sy) : Dm (uniT (litF true N) N s) := (nmd_m s).bnd fun _ => (dirs_m _).bnd fun _ => (punctR_m _).bnd fun q => (cond_m (parT_m namR_m N bPipe) (ret_m _)).bnd fun _ => ret_m _
theorem enu_m (s : Sy) : Dm (enuT (litF true N) s) := (nmd_m s).bnd fun _ => (dirs_m _).bnd fun _ => (optT_m _ _ _).bnd fun _ => ret_m _
theorem inu_m (s : Sy) : Dm (inuT (typF N) (litF true N) s) := (nmd_m s).bnd fun _ => (dirs_m _).bnd fun _ => (optT_m _ _ _).bnd fun _ => ret_m _
theorem dird_m (s : Sy) : Dm (dirT (typF N) (litF true N) N s) := (wantR_m _).bnd fun _ => (nmd_m s).bnd fun _ => (optT_m _ _ _).bnd fun _ => (wordR_m _).bnd fun _ => (wwR_m _).bnd fun _ => (parT_m (wwN_m _) N bPipe).bnd fun _ => ret_m _
theorem kw_m {q : ByteArray} {E F : Cu → Sy × Cu} (h : Dm E) (k : Dm F) : Dm (kwT q E F) := (wordR_m q).bnd fun _ => cond_m h k
theorem key_m (s : Sy) : Dm (keyT (typF N) (litF true N) N s) := tokR_m.bnd fun t =>
 kw_m (sch_m N _) (kw_m (sca_m N _) (kw_m (obj_m N _) (kw_m (obj_m N _) (kw_m (uni_m N _) (kw_m (enu_m N _) (kw_m (inu_m N _) (cond_m (stopR_m _) (kw_m (dird_m N _) (stopR_m _)))))))))
end
theorem def_m (N : Nat) : Dm (defT (typF N) (litF true N) N) := noteR_m.bnd fun n => (cond_m (ret_m _) (wordR_m _)).bnd fun x => (key_m N _).bnd fun s => cond_m (stopR_m _) (ret_m _)
theorem infoSyz : ∃ i z, Tryz.prog.info? 62 = some i ∧ i.zero = some z ∧ i.size = 17 ∧ i.bytes = 272 ∧ z.cells.size = 17 := by
 have hin : (Tryz.prog.info? 62).map (fun i => (i.bytes, i.size, i.zero.map (·.cells.size))) = some (272, 17, some 17) := by kernel_rfl
 cases hq : Tryz.prog.info? 62 with
 | none => simp [hq] at hin
 | some i =>
  simp [hq] at hin
  obtain ⟨h1, h2, z, hz, h3⟩ := hin
  exact ⟨i, z, rfl, hz, h2, h1, h3⟩
set_option maxRecDepth 4000 in
set_option maxHeartbeats 8000000 in
theorem defs_ct {N B p : Nat} {c : Cu} {w : World} (hN : N ≤ 4294967296) (h : CurN N w B p c) :
  Calls Tryz.prog 21 #[.agg #[.pointer (some ⟨B, 0, none⟩)]] w fun e w' => ∃ (r : Option (List Dt)) (c' : Cu) (a : Option Addr) (n cp : Nat) (F : List Nat), defsF (sdN N) c.ts.length [] c = (r, c') ∧ e = .returned (.slice a n cp) ∧ Sh w' 17 (r.getD []) w.heap.size w'.heap.size a n cp F ∧ CurN N w' B p c' ∧ Kp B w w' := by
 have hB := h.lt
 have hp := h.plt
 have hm := h.m
 have hc0 := h.at_.ok
 have hG : ∀ cc : Cu, cc.Ok → Stp cc (defT (typF N) (litF true N) N cc).2 ∧ ((defT (typF N) (litF true N) N cc).2.kd = 0 → cc.ix < (defT (typF N) (litF true N) N cc).2.ix) := fun cc hcc => ⟨def_st N cc hcc, def_pg N cc hcc⟩
 obtain ⟨E, hE⟩ : ∃ E, E = defT (typF N) (litF true N) N := ⟨_, rfl⟩
 have hRd := hide (fun cc W (hc : CurN N W B p cc) => def_ct hN hc)
 have hDm : Dm E := by rw [hE]; exact (def_m N)
 rw [show sdN N = optR (defT (typF N) (litF true N) N) from rfl, ← hE]
 rw [← hE] at hRd hG
 clear hE
 obtain ⟨w0, hw0⟩ : ∃ w0, w0 = w.alloc (.cells #[.pointer (some ⟨B, 0, none⟩)] 74) := ⟨_, rfl⟩
 have b0 : Below w.heap.size w w0 := by rw [hw0]; exact (Below.refl _ _).alloc (Nat.le_refl _) _
 have z0 : w.heap.size + 1 ≤ w0.heap.size := by rw [hw0]; simp
 have p0 : w0.heap[w.heap.size]? = some (.cells #[.pointer (some ⟨B, 0, none⟩)] 74 (0, 0)) := by rw [hw0]; exact heap_alloc_new _ _
 have hc0' := h.below b0
 have hPc := hide (fun (W : World) (hk : W.heap[w.heap.size]? = some (.cells #[.pointer (some ⟨B, 0, none⟩)] 74 (0, 0))) => show W.cell? ⟨w.heap.size, 0, none⟩ = some (.pointer (some ⟨B, 0, none⟩)) from (dt.cell_cells hk 0).trans rfl)
 obtain ⟨R, hR⟩ : ∃ R, R = defsF (optR E) c.ts.length [] c := ⟨_, rfl⟩
 have HR := hide hR.symm
 have HR' := hide hR.symm
 clear h hR
 have hip := hide (fun W (cc : Cu) (hc : CurN N W B p cc) => token_ok B p cc W hc.at_)
 have hsp := hide (fun W (cc : Cu) (hc : CurN N W B p cc) => stopped_ct hc)
 unfold Tk.cells at hip
 unfold ptr at hip
 go_enter Tryz.func21, Tryz.ntmps21
 go_wp2_with fail
 rw [← hw0]
 have K1 : Kp B w w0 := Kp.of b0
 clear hw0 b0
 go_loopg [3] c.ts.length (fun g sl wr => ∃ (l : List Dt) (cc : Cu) (Gs : List Nat), Hid (defsF (optR E) g l cc = R) ∧ CurN N wr B p cc ∧ Hid (Grow 62 17 wr (w.heap.size + 1) l sl Gs) ∧ Kp B w wr ∧ Hid (cc.ts = c.ts) ∧ c.ts.length ≤ g + cc.ix ∧ l.length + c.ix ≤ cc.ix ∧ Hid (l ≠ [] → cc.kd = 0) ∧ Hid (wr.heap[w.heap.size]? = some (.cells #[.pointer (some ⟨B, 0, none⟩)] 74 (0, 0))) ∧ w.heap.size + 1 ≤ wr.heap.size)
 case atStart => exact ⟨[], c, [], HR, hc0', hide Grow.nil, K1, hide rfl, Nat.le_add_right _ _, by simp, hide (fun h => absurd rfl h), hide p0, by omega⟩
 case round =>
  obtain ⟨l, cc, Gs, hrun, hcc, hgr, hkr, hts, hfu, hll, hal, hpr, hzr⟩ := hrel
  have hixl := hcc.at_.ok.lt
  rw [unhide hts] at hixl
  obtain ⟨al, cl, hsl⟩ := (unhide hgr).form
  subst hsl
  have cP := (unhide hPc) wr (unhide hpr)
  obtain ⟨g', rfl⟩ : ∃ g', gk = g' + 1 := ⟨gk - 1, by omega⟩
  by_cases hl0 : l.length = 0
  ·obtain rfl : l = [] := List.eq_nil_of_length_eq_zero hl0
   obtain ⟨w2, hw2⟩ : ∃ w2, w2 = wr := ⟨_, rfl⟩
   subst hw2
   have b2 := Below.refl w2.heap.size w2
   have hc2 := hcc
   have hgr2 := hgr
   have hk2 := hkr
   have hp2 := hpr
   clear hl0
   have hrun2 := hide (show (match (optR E cc).1 with | none => (none, (optR E cc).2) | some d => defsF (optR E) g' ([] ++ [d]) (optR E cc).2) = R from by
    have e := unhide hrun
    rw [defsF, if_pos (.inl rfl)] at e
    exact e)
   have hgo := hG cc hcc.at_.ok
   have hcall := hide ((unhide hRd) cc w2 hc2)
   go_wp2_with fail
   refine (unhide hcall).mono ?_
   rintro e w3 ⟨d, C, k, ex, n1, n2, n3, nm, a1, m1, c1, a2, m2, c2, a3, m3, c3, a4, m4, c4, a5, m5, c5, a6, m6, c6, a7, m7, c7, rp, a8, m8, c8, ln, co, F, hEq, rfl, hho, hc3, hk3⟩
   rw [hEq] at hgo
   have hon : ∀ (hk : C.kd ≠ 0), optR E cc = (none, C) := fun hk => (optR_none (by rw [hEq]; exact hk)).trans (by rw [hEq])
   have hos : ∀ (hk : C.kd = 0), optR E cc = (some d, C) := fun hk => (optR_some (by rw [hEq]; exact hk)).trans (by rw [hEq])
   have HO := hide (And.intro hon hos)
   have HP := hide hho
   have HC3 := hide hc3
   have HK3 := hide hk3
   have hz3 := hk3.size
   have hp3 := hide ((hk3.block w.heap.size (by omega) (by omega)).trans (unhide hp2))
   have hgr3 := (unhide hgr2).kp (unhide HK3) (by omega)
   obtain ⟨it, zt, q1, q2, q3, q4, q5⟩ := infoSyz
   have HQ := hide (And.intro q1 (And.intro q2 (And.intro q3 (And.intro q4 q5))))
   clear q1 q2 q3 q4 q5
   obtain ⟨xss, hr3, hol3, hx3⟩ := hgr3.row
   have hr4 := hide hr3
   have hbyt := hide (show (([] : List Dt).length + 1) * 272 ≤ 140737488355328 ∧ ([] : List Dt).length + 1 ≤ maxLen from ⟨by omega, by unfold maxLen; omega⟩)
   have hsz4 := hide (show w.heap.size + 1 ≤ w3.heap.size from by have := hz3; have := b2.size; omega)
   have hone := hide (hho.ow.one)
   have HG := hide (And.intro hgr3 (And.intro hol3 hx3))
   have hGO := hide hgo
   clear hgo hgr3 hr3 hol3 hx3 hcall hEq hon hos hho hc3 hk3 hrun
   unfold sysC at HP hone
   unfold sysC
   go_wp2_with (first
    | (at_builtin; refine dt.wp_snoc (by rfl) _ _ (by rfl) Tryz.underlying24 (unhide HQ).1 (unhide HQ).2.1 (unhide HQ).2.2.1 (unhide HQ).2.2.2.1 (unhide HQ).2.2.2.2 (by omega) (w.heap.size + 1) ([] : List Dt).length xss.flatten _ (by rfl) (unhide hr4) [.int .i64 k, .bool ex, .bool n1, .bool n2, .string n3, .string nm, .slice a1 m1 c1, .slice a2 m2 c2, .slice a3 m3 c3, .slice a4 m4 c4, .slice a5 m5 c5, .slice a6 m6 c6, .slice a7 m7 c7, .bool rp, .slice a8 m8 c8, .int .i64 ln, .int .i64 co] (by rfl) (unhide hone) w3.heap.size (by rfl) (by rfl) (unhide hbyt).1 (unhide hbyt).2 (unhide hsz4) ?_; intro sl' w7 hr7 b7 hold7 hat7; have cP7 := (unhide hPc) w7 ((b7.block w.heap.size (Nat.lt_succ_self _)).trans (unhide hp3)); have H7 := hide (And.intro hr7 (And.intro b7 (And.intro hold7 hat7))); clear hr7 b7 hold7 hat7))
   obtain ⟨hr7, b7, hold7, hat7⟩ := unhide H7
   obtain ⟨hgr3, hol3, hx3⟩ := unhide HG
   have HPo := unhide HP
   have hown := fun b (hb : (Value.slice al ([] : List Dt).length cl).ownBlock = some b) => (let ⟨_, hr, _⟩ := (unhide hgr2).row; (hr.lt b hb).2)
   have hsz : w.heap.size ≤ w2.heap.size := hk2.size
   have hmore := hgr3.more hol3 hx3 HPo.ow HPo.nd (fun b hb => ⟨by have := (HPo.rng b hb).1; omega, by have := (HPo.rng b hb).2; omega, fun hm => by have := ((unhide hgr2).rng b hm).2; have := (HPo.rng b hb).1; omega, fun e => by have := hown b e; have := (HPo.rng b hb).1; omega⟩) (by rfl) hr7 (by have := (hr7.lt); have := b7.size; exact this) hold7 hat7
   have hBs : B < w3.heap.size := by omega
   have b7' := b7.mono (Nat.le_succ w.heap.size)
   have C7 := (unhide HC3).low b7' hB hp
   have K7 := (hk2.trans (unhide HK3)).low b7'
   have p7 := (b7.block w.heap.size (Nat.lt_succ_self _)).trans (unhide hp3)
   have z7 : w.heap.size + 1 ≤ w7.heap.size := by have := b7.size; omega
   have hst7 := (unhide hsp) w7 C C7
   by_cases hk : C.kd = 0
   ·rw [show (C.kd != 0) = false by simpa using hk] at hst7
    have hrun3 := hide (show defsF (optR E) g' ([] ++ [d]) C = R from by have e := unhide hrun2; rw [(unhide HO).2 hk] at e; exact e)
    have hix3 : cc.ix < C.ix := (unhide hGO).2 hk
    have hts3 := (unhide hGO).1.ts
    have hlt3 := (unhide hGO).1.ok.lt
    have hTS := hide hts3
    have HKD := hide hk
    have HM := hide hmore
    rw [hts3, unhide hts] at hlt3
    clear hr7 b7 hold7 hat7 hgr3 hol3 hx3 hown hmore hts3 HO hGO hrun2 H7 hr4 HQ hbyt hsz4 hone b7'
    refine hst7.mono ?_
    rintro e w8 ⟨rfl, C8, K8⟩
    have z8 := K8.size
    clear hst7 C7 hk
    go_wp2_with fail
    go_roundg g'
    case rel =>
     refine ⟨[] ++ [d], C, Gs ++ F, hrun3, C8, hide ((unhide HM).kp K8 (by omega)), K7.trans K8, hide ((unhide hTS).trans (unhide hts)), by omega, by rw [List.length_append]; simp; omega, hide (fun _ => unhide HKD), hide ((K8.block w.heap.size (by omega) (by omega)).trans p7), by omega⟩
    case measure => exact Nat.lt_succ_self _
   ·rw [show (C.kd != 0) = true by simpa using hk] at hst7
    have hrun3 := hide (show (none, C) = R from by have e := unhide hrun2; rw [(unhide HO).1 hk] at e; exact e)
    clear hr7 b7 hold7 hat7 hgr3 hol3 hx3 hown hmore HO hGO hrun2 H7 hr4 HQ hbyt hsz4 hone b7'
    refine hst7.mono ?_
    rintro e w8 ⟨rfl, C8, K8⟩
    clear hst7 C7 hk
    go_wp2_with fail
    go_ret
    exact ⟨none, C, none, 0, 0, [], (unhide HR').trans (unhide hrun3).symm, rfl, Sh.nil (Nat.le_refl _), C8, K7.trans K8⟩
  ·have hlz : ¬ ((l.length : Int) = 0) := by omega
   have hlz1 : ¬ (l = []) := fun e => hl0 (by rw [e]; rfl)
   obtain ⟨t, et⟩ : ∃ t, t = cc.tok := ⟨_, rfl⟩
   have hip2 := hide ((unhide hip) wr cc hcc)
   have hf1 := fld_kind t
   rw [← et] at hip2
   have hkd0 := (unhide hal) hlz1
   by_cases hQ0 : t.k = 0
   ·have et0 : (t.k != 0) = false := by rw [hQ0]; rfl
    have hrun2 := hide (show (some l, cc) = R from by
     have e := unhide hrun
     rw [defsF, if_neg (fun e => by rcases e with e | e; exact hl0 e; exact e (et ▸ hQ0))] at e
     have hb : cc.finB = true := decide_eq_true ⟨hkd0, et ▸ hQ0⟩
     rw [hb] at e
     have hf : cc.fin = cc := by unfold Cu.fin; rw [if_pos hb]
     rw [hf] at e
     exact e)
    clear hrun hQ0 et hkd0
    go_wp2_with fail
    refine (unhide hip2).mono ?_
    rintro e w2 ⟨rfl, b2⟩
    have hc2 := hcc.below b2
    have hgr2 := hide ((unhide hgr).keep b2.size (fun b hb _ => b2.block b hb))
    have hk2 := hkr.trans (Kp.of b2)
    clear hip2
    go_wp2_with fail
    go_ret
    obtain ⟨a', n', c', F', he', hSh⟩ := Sh.of ((unhide hgr2).lo (Nat.le_succ _))
    injection he' with e1 e2 e3
    subst e1 e2 e3
    exact ⟨some l, cc, _, _, _, F', (unhide HR').trans (unhide hrun2).symm, rfl, hSh, hc2, hk2⟩
   have hQ : cc.tok.k ≠ 0 := by rw [← et]; exact hQ0
   have et1 : (t.k != 0) = true := by simpa using hQ0
   clear hQ0 hkd0
   clear et
   go_wp2_with fail
   refine (unhide hip2).mono ?_
   rintro e w2 ⟨rfl, b2⟩
   have hc2 := hcc.below b2
   have hgr2 := hide ((unhide hgr).keep b2.size (fun b hb _ => b2.block b hb))
   have hk2 := hkr.trans (Kp.of b2)
   have hs2 := b2.size
   have hp2 := hide ((b2.block w.heap.size (by omega)).trans (unhide hpr))
   have cP2 := (unhide hPc) w2 (unhide hp2)
   clear hip2
   have hrun2 := hide (show (match (optR E cc).1 with | none => (none, (optR E cc).2) | some d => defsF (optR E) g' (l ++ [d]) (optR E cc).2) = R from by
    have e := unhide hrun
    rw [defsF, if_pos (.inr hQ)] at e
    exact e)
   have hgo := hG cc hcc.at_.ok
   have hcall := hide ((unhide hRd) cc w2 hc2)
   go_wp2_with fail
   refine (unhide hcall).mono ?_
   rintro e w3 ⟨d, C, k, ex, n1, n2, n3, nm, a1, m1, c1, a2, m2, c2, a3, m3, c3, a4, m4, c4, a5, m5, c5, a6, m6, c6, a7, m7, c7, rp, a8, m8, c8, ln, co, F, hEq, rfl, hho, hc3, hk3⟩
   rw [hEq] at hgo
   have hon : ∀ (hk : C.kd ≠ 0), optR E cc = (none, C) := fun hk => (optR_none (by rw [hEq]; exact hk)).trans (by rw [hEq])
   have hos : ∀ (hk : C.kd = 0), optR E cc = (some d, C) := fun hk => (optR_some (by rw [hEq]; exact hk)).trans (by rw [hEq])
   have HO := hide (And.intro hon hos)
   have HP := hide hho
   have HC3 := hide hc3
   have HK3 := hide hk3
   have hz3 := hk3.size
   have hp3 := hide ((hk3.block w.heap.size (by omega) (by omega)).trans (unhide hp2))
   have hgr3 := (unhide hgr2).kp (unhide HK3) (by omega)
   obtain ⟨it, zt, q1, q2, q3, q4, q5⟩ := infoSyz
   have HQ := hide (And.intro q1 (And.intro q2 (And.intro q3 (And.intro q4 q5))))
   clear q1 q2 q3 q4 q5
   obtain ⟨xss, hr3, hol3, hx3⟩ := hgr3.row
   have hr4 := hide hr3
   have hbyt := hide (show (l.length + 1) * 272 ≤ 140737488355328 ∧ l.length + 1 ≤ maxLen from ⟨by omega, by unfold maxLen; omega⟩)
   have hsz4 := hide (show w.heap.size + 1 ≤ w3.heap.size from by have := hz3; have := b2.size; omega)
   have hone := hide (hho.ow.one)
   have HG := hide (And.intro hgr3 (And.intro hol3 hx3))
   have hGO := hide hgo
   clear hgo hgr3 hr3 hol3 hx3 hcall hEq hon hos hho hc3 hk3 hrun
   unfold sysC at HP hone
   unfold sysC
   go_wp2_with (first
    | (at_builtin; refine dt.wp_snoc (by rfl) _ _ (by rfl) Tryz.underlying24 (unhide HQ).1 (unhide HQ).2.1 (unhide HQ).2.2.1 (unhide HQ).2.2.2.1 (unhide HQ).2.2.2.2 (by omega) (w.heap.size + 1) l.length xss.flatten _ (by rfl) (unhide hr4) [.int .i64 k, .bool ex, .bool n1, .bool n2, .string n3, .string nm, .slice a1 m1 c1, .slice a2 m2 c2, .slice a3 m3 c3, .slice a4 m4 c4, .slice a5 m5 c5, .slice a6 m6 c6, .slice a7 m7 c7, .bool rp, .slice a8 m8 c8, .int .i64 ln, .int .i64 co] (by rfl) (unhide hone) w3.heap.size (by rfl) (by rfl) (unhide hbyt).1 (unhide hbyt).2 (unhide hsz4) ?_; intro sl' w7 hr7 b7 hold7 hat7; have cP7 := (unhide hPc) w7 ((b7.block w.heap.size (Nat.lt_succ_self _)).trans (unhide hp3)); have H7 := hide (And.intro hr7 (And.intro b7 (And.intro hold7 hat7))); clear hr7 b7 hold7 hat7))
   obtain ⟨hr7, b7, hold7, hat7⟩ := unhide H7
   obtain ⟨hgr3, hol3, hx3⟩ := unhide HG
   have HPo := unhide HP
   have hown := fun b (hb : (Value.slice al l.length cl).ownBlock = some b) => (let ⟨_, hr, _⟩ := (unhide hgr2).row; (hr.lt b hb).2)
   have hsz : w.heap.size ≤ w2.heap.size := hk2.size
   have hmore := hgr3.more hol3 hx3 HPo.ow HPo.nd (fun b hb => ⟨by have := (HPo.rng b hb).1; omega, by have := (HPo.rng b hb).2; omega, fun hm => by have := ((unhide hgr2).rng b hm).2; have := (HPo.rng b hb).1; omega, fun e => by have := hown b e; have := (HPo.rng b hb).1; omega⟩) (by rfl) hr7 (by have := (hr7.lt); have := b7.size; exact this) hold7 hat7
   have hBs : B < w3.heap.size := by omega
   have b7' := b7.mono (Nat.le_succ w.heap.size)
   have C7 := (unhide HC3).low b7' hB hp
   have K7 := (hk2.trans (unhide HK3)).low b7'
   have p7 := (b7.block w.heap.size (Nat.lt_succ_self _)).trans (unhide hp3)
   have z7 : w.heap.size + 1 ≤ w7.heap.size := by have := b7.size; omega
   have hst7 := (unhide hsp) w7 C C7
   by_cases hk : C.kd = 0
   ·rw [show (C.kd != 0) = false by simpa using hk] at hst7
    have hrun3 := hide (show defsF (optR E) g' (l ++ [d]) C = R from by have e := unhide hrun2; rw [(unhide HO).2 hk] at e; exact e)
    have hix3 : cc.ix < C.ix := (unhide hGO).2 hk
    have hts3 := (unhide hGO).1.ts
    have hlt3 := (unhide hGO).1.ok.lt
    have hTS := hide hts3
    have HKD := hide hk
    have HM := hide hmore
    rw [hts3, unhide hts] at hlt3
    clear hr7 b7 hold7 hat7 hgr3 hol3 hx3 hown hmore hts3 HO hGO hrun2 H7 hr4 HQ hbyt hsz4 hone b7'
    refine hst7.mono ?_
    rintro e w8 ⟨rfl, C8, K8⟩
    have z8 := K8.size
    clear hst7 C7 hk
    go_wp2_with fail
    go_roundg g'
    case rel =>
     refine ⟨l ++ [d], C, Gs ++ F, hrun3, C8, hide ((unhide HM).kp K8 (by omega)), K7.trans K8, hide ((unhide hTS).trans (unhide hts)), by omega, by rw [List.length_append]; simp; omega, hide (fun _ => unhide HKD), hide ((K8.block w.heap.size (by omega) (by omega)).trans p7), by omega⟩
    case measure => exact Nat.lt_succ_self _
   ·rw [show (C.kd != 0) = true by simpa using hk] at hst7
    have hrun3 := hide (show (none, C) = R from by have e := unhide hrun2; rw [(unhide HO).1 hk] at e; exact e)
    clear hr7 b7 hold7 hat7 hgr3 hol3 hx3 hown hmore HO hGO hrun2 H7 hr4 HQ hbyt hsz4 hone b7'
    refine hst7.mono ?_
    rintro e w8 ⟨rfl, C8, K8⟩
    clear hst7 C7 hk
    go_wp2_with fail
    go_ret
    exact ⟨none, C, none, 0, 0, [], (unhide HR').trans (unhide hrun3).symm, rfl, Sh.nil (Nat.le_refl _), C8, K7.trans K8⟩
open mem (Row)
theorem result_tmp_row {P : Program} {fn : Func} {p u : Tmp} {ty : TypeId} (h : fn.results = #[.tmp u, .cell p ty]) (tmps : Array Value) (w : World) (b o : Nat) (cs : List Value) (d : TypeDesc) (hp : tmps.getD p undef = .pointer (some ⟨b, o, none⟩)) (hc : w.rangeAt b o cs)
  (hu : P.underlying ty = some d) (hd : d.isRow = true) (hi : (P.info? ty).map (·.size) = some cs.length) : (results fn tmps).run P w = .ok (.tuple #[tmps.getD u undef, .agg cs.toArray]) w := by
 have := run_loadVar_mid (P := P) w b o ty cs d hc hu hd hi
 have hp' : tmps[p]?.getD undef = .pointer (some ⟨b, o, none⟩) := by simpa using hp
 simp [results, h, hp', asAddr, this]
theorem FltAt.below {lo : Nat} {w w' : World} {c : Cu} {fs : List Value} (h : FltAt lo w c fs) (b : Below w.heap.size w w') : FltAt lo w' c fs := by
 unfold FltAt at h ⊢
 split
 ·rename_i hk; rw [if_pos hk] at h; exact h
 ·rename_i hk
  rw [if_neg hk] at h
  obtain ⟨x, y1, y2, y3, y4, y5⟩ := h
  exact ⟨x, y1, Nat.lt_of_lt_of_le y2 b.size, y3, (b.cell (p := ⟨x, 0, none⟩) y2).trans y4, (b.cell (p := ⟨x, 1, none⟩) y2).trans y5⟩
theorem FltAt.lo {lo lo' : Nat} {w : World} {c : Cu} {fs : List Value} (h : FltAt lo w c fs) (hl : lo' ≤ lo) : FltAt lo' w c fs := by
 unfold FltAt at h ⊢
 split
 ·rename_i hk; rw [if_pos hk] at h; exact h
 ·rename_i hk
  rw [if_neg hk] at h
  obtain ⟨x, y1, y2, y3, y4, y5⟩ := h
  exact ⟨x, by omega, y2, y3, y4, y5⟩
theorem FltAt.outC {lo : Nat} {w : World} {c : Cu} {fs : List Value} (h : FltAt lo w c fs) {b : Nat} (hb : b < lo) (o : Nat) (v : Value) : FltAt lo (w.setCell ⟨b, o, none⟩ v) c fs := by
 unfold FltAt at h ⊢
 split
 ·rename_i hk; rw [if_pos hk] at h; exact h
 ·rename_i hk
  rw [if_neg hk] at h
  obtain ⟨x, y1, y2, y3, y4, y5⟩ := h
  exact ⟨x, y1, by rw [size_setC]; exact y2, y3, (dt.cell_blk (Below.heap_setCell w _ _ _ (by show x ≠ b; omega)) 0).trans y4, (dt.cell_blk (Below.heap_setCell w _ _ _ (by show x ≠ b; omega)) 1).trans y5⟩
set_option maxRecDepth 4000 in
set_option maxHeartbeats 2000000 in
theorem parse_ct (a : Option Addr) (n c : Nat) (z : List Int) (d : Int) (w : World) (h : Row .u8 w a n c z) (hn : n ≤ 1073741824) (hz : mem.Byt z) (hd : (Lit.int .i64 d).wf = true) :
  Calls Tryz.prog 9 #[.slice a n c, .int .i64 d] w fun e w' => ∃ (r : Option (List Dt)) (C : Cu) (a' : Option Addr) (n' c' : Nat) (F : List Nat) (fs : List Value), sdocS (newG z d) = (r, C) ∧ e = .returned (.tuple #[.slice a' n' c', .agg fs.toArray]) ∧ Sh w' 17 (r.getD []) w.heap.size w'.heap.size a' n' c' F ∧ FltAt w.heap.size w' C fs ∧ Below w.heap.size w w' := by
 have hN := hide (fun W (bb : Below w.heap.size w W) => newG_ok a n c z d W (h.below bb) (by omega) hz hd)
 have hl : (newG z d).ts.length ≤ 4294967296 := by have := toks_len z hz; rw [h.len] at this; show (lx.toks z).length ≤ _; omega
 have hD := hide (fun B p W (hc : CurAt W B p (newG z d)) => defs_ct (N := (newG z d).ts.length) hl (⟨hc, Nat.le_refl _, hl⟩ : CurN (newG z d).ts.length W B p (newG z d)))
 have hS := hide (show sdocS (newG z d) = defsF (sdN (newG z d).ts.length) (newG z d).ts.length [] (newG z d) from rfl)
 obtain ⟨C0, hC0⟩ : ∃ C0, C0 = newG z d := ⟨_, rfl⟩
 rw [← hC0] at hN hD hS ⊢
 obtain ⟨NN, hNN⟩ : ∃ NN, NN = C0.ts.length := ⟨_, rfl⟩
 rw [← hNN] at hD hS
 clear h hC0 hNN hl
 go_enter Tryz.func9, Tryz.ntmps9
 go_wp2_with fail
 obtain ⟨W0, gW0⟩ : ∃ W0, W0 = w.alloc (.cells #[.int .i64 0, .slice none 0 0, .slice none 0 0] 29) := ⟨_, rfl⟩
 have f0 : W0.heap[w.heap.size]? = some (.cells #[.int .i64 0, .slice none 0 0, .slice none 0 0] 29 (0, 0)) := by rw [gW0]; exact heap_alloc_new _ _
 have bw : Below w.heap.size w W0 := by rw [gW0]; exact (Below.refl _ _).alloc (Nat.le_refl _) _
 have sz0 : w.heap.size + 1 ≤ W0.heap.size := by rw [gW0]; simp
 rw [← gW0]
 clear gW0
 refine ((unhide hN) W0 bw).mono ?_
 rintro e w1 ⟨B, p, rfl, hB, hp0, hc1, b1⟩
 have hBl := hc1.lt
 have hpl := hc1.plt
 have sz1 := b1.size
 obtain ⟨W2, hW2⟩ : ∃ W2, W2 = w1.alloc (.cells #[.pointer (some ⟨B, 0, none⟩)] 74) := ⟨_, rfl⟩
 have b2 : Below w1.heap.size w1 W2 := by rw [hW2]; exact (Below.refl _ _).alloc (Nat.le_refl _) _
 have g2 : W2.heap[w1.heap.size]? = some (.cells #[.pointer (some ⟨B, 0, none⟩)] 74 (0, 0)) := by rw [hW2]; exact heap_alloc_new _ _
 have sz2 : w1.heap.size + 1 ≤ W2.heap.size := by rw [hW2]; simp
 have hc2 := hc1.below b2
 have bw2 := b1.trans (b2.mono b1.size)
 clear hN hc1
 unfold ptr
 go_wp2_with fail
 rw [← hW2]
 clear hW2
 refine ((unhide hD) B p W2 hc2).mono ?_
 rintro e w3 ⟨r, C, a', n', c', F, qE, rfl, hsh, hc3, hk3⟩
 have hfin := hide ((unhide hS).trans qE)
 have sz3 := hk3.size
 have b03 : Below W0.heap.size W0 w3 := bw2.trans (hk3.below (by omega) (by omega))
 have F0 := (b03.block w.heap.size (by omega)).trans f0
 have G2 := (hk3.block w1.heap.size (by omega) (by omega)).trans g2
 have cP : w3.cell? ⟨w1.heap.size, 0, none⟩ = some (.pointer (some ⟨B, 0, none⟩)) := (dt.cell_cells G2 0).trans rfl
 have BW := bw.trans (b03.mono bw.size)
 have hFl := hide (faultC_ok B p C w3 hc3.at_)
 have HH := hide (And.intro F0 (And.intro hsh BW))
 clear f0 g2 bw b1 b2 bw2 b03 F0 G2 BW hc2 hD hk3 qE hS hsh hc3
 unfold ptr at hFl
 go_wp2_with fail
 refine (unhide hFl).mono ?_
 rintro e w4 ⟨k, fa, fn, fc, rfl, hflt, b4⟩
 clear hFl cP
 obtain ⟨F0, hsh, BW⟩ := unhide HH
 have sz4 := b4.size
 obtain ⟨W5, hW5⟩ : ∃ W5, W5 = w4.alloc (.cells #[.int .i64 k, .slice fa fn fc, .slice none 0 0] 29) := ⟨_, rfl⟩
 have b5 : Below w4.heap.size w4 W5 := by rw [hW5]; exact (Below.refl _ _).alloc (Nat.le_refl _) _
 have b45 := b4.trans (b5.mono b4.size)
 have g5 : W5.heap[w4.heap.size]? = some (.cells #[.int .i64 k, .slice fa fn fc, .slice none 0 0] 29 (0, 0)) := by rw [hW5]; exact heap_alloc_new _ _
 have sz5 : w4.heap.size + 1 ≤ W5.heap.size := by rw [hW5]; simp
 have hfl5 := hflt.below b5
 have hsh5 := hsh.below b45
 have F5 := (b45.block w.heap.size (by omega)).trans F0
 have BW5 := BW.trans (b45.mono BW.size)
 clear HH F0 hsh BW hflt b4 b5 b45
 have HH := hide (And.intro g5 (And.intro hfl5 (And.intro hsh5 (And.intro F5 BW5))))
 have d0 : W5.cell? ⟨w4.heap.size, 0, none⟩ = some (.int .i64 k) := (dt.cell_cells g5 0).trans rfl
 have d1 : W5.cell? ⟨w4.heap.size, 1, none⟩ = some (.slice fa fn fc) := (dt.cell_cells g5 1).trans rfl
 have d2 : W5.cell? ⟨w4.heap.size, 2, none⟩ = some (.slice none 0 0) := (dt.cell_cells g5 2).trans rfl
 have r0 : W5.cell? ⟨w.heap.size, 0, none⟩ = some (.int .i64 0) := (dt.cell_cells F5 0).trans rfl
 have r1 : W5.cell? ⟨w.heap.size, 1, none⟩ = some (.slice none 0 0) := (dt.cell_cells F5 1).trans rfl
 have r2 : W5.cell? ⟨w.heap.size, 2, none⟩ = some (.slice none 0 0) := (dt.cell_cells F5 2).trans rfl
 have z0 : W5.frozen? ⟨w.heap.size, 0, none⟩ = false := dt.frozen_cells F5 0
 have z1 : W5.frozen? ⟨w.heap.size, 1, none⟩ = false := dt.frozen_cells F5 1
 have z2 : W5.frozen? ⟨w.heap.size, 2, none⟩ = false := dt.frozen_cells F5 2
 have HW5 := hide hW5
 clear g5 hfl5 hsh5 F5 BW5 hW5
 go_wp2_with fail
 rw [← unhide HW5]
 go_region
 obtain ⟨g5, hfl5, hsh5, F5, BW5⟩ := unhide HH
 obtain ⟨X, hX⟩ : ∃ X, X = ((W5.setCell ⟨w.heap.size, 0, none⟩ (.int .i64 k)).setCell ⟨w.heap.size, 1, none⟩ (.slice fa fn fc)).setCell ⟨w.heap.size, 2, none⟩ (.slice none 0 0) := ⟨_, rfl⟩
 have h1 : (W5.setCell ⟨w.heap.size, 0, none⟩ (.int .i64 k)).heap[w.heap.size]? = some (.cells #[.int .i64 k, .slice none 0 0, .slice none 0 0] 29 (0, 0)) := (dt.heap_setCell_at F5 0 _).trans (by kernel_rfl)
 have h2 := (dt.heap_setCell_at h1 1 (.slice fa fn fc)).trans (show _ = some (Obj.cells #[.int .i64 k, .slice fa fn fc, .slice none 0 0] 29 (0, 0)) by kernel_rfl)
 have h3 := (dt.heap_setCell_at h2 2 (.slice none 0 0)).trans (show _ = some (Obj.cells #[.int .i64 k, .slice fa fn fc, .slice none 0 0] 29 (0, 0)) by kernel_rfl)
 have fl3 := ((hfl5.outC (b := w.heap.size) (by omega) 0 (.int .i64 k)).outC (b := w.heap.size) (by omega) 1 (.slice fa fn fc)).outC (b := w.heap.size) (by omega) 2 (.slice none 0 0)
 have sh3 := ((hsh5.outC (b := w.heap.size) (.inl (by omega)) 0 (.int .i64 k)).outC (b := w.heap.size) (.inl (by omega)) 1 (.slice fa fn fc)).outC (b := w.heap.size) (.inl (by omega)) 2 (.slice none 0 0)
 have bw3 := dt.below_setCells w.heap.size [.slice none 0 0] 2 _ (dt.below_setCells w.heap.size [.slice fa fn fc] 1 _ (dt.below_setCells w.heap.size [.int .i64 k] 0 _ BW5 (Nat.le_refl _)) (Nat.le_refl _)) (Nat.le_refl _)
 have szx : X.heap.size = W5.heap.size := by rw [hX]; simp only [size_setC]
 have bX : Below w.heap.size w X := by rw [hX]; exact bw3
 rw [← hX] at h3 fl3 sh3 ⊢
 have bD : Below X.heap.size X X.drew := (Below.refl _ _).drew
 clear hX bw3 h1 h2
 go_wp2_with fail
 refine bodyPost_ret (result_tmp_row rfl _ _ w.heap.size 0 [.int .i64 k, .slice fa fn fc, .slice none 0 0] _ rfl (dt.range_cells ((bD.block _ (by omega)).trans h3) 0 [.int .i64 k, .slice fa fn fc, .slice none 0 0] (fun j u hu => by rw [Nat.zero_add]; simpa using hu)) Tryz.underlying29 rfl infoFl) rfl ?_
 have shD := (sh3.below bD).lo (lo' := w.heap.size) (by omega)
 have hszD := bD.size
 exact ⟨r, C, a', n', c', F, _, unhide hfin, rfl, ⟨shD.nc, shD.cm, shD.no, shD.nd, fun b hb => ⟨(shD.rng b hb).1, by have := (shD.rng b hb).2; omega⟩, Nat.le_refl _, shD.len, shD.at_⟩, (fl3.below bD).lo (by omega), bX.trans (bD.mono bX.size)⟩
end Go.Proofs.YtmccppkbabjblaaGreat.cu
