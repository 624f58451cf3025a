import Derived.Test.YtifbkdicglcogaaGreatSpl18
import Derived.Lib.SlBytesConst
set_option linter.unusedVariables false
set_option linter.unusedSimpArgs false
namespace Go.Proofs.YtifbkdicglcogaaGreat.cu
open Go.ChangeShapes Go.WideShapes Go.ChangeAt Go.RowKit
open ints (Hi uh)
open dt (Dt Kp RowAt Ow Grow OwIn)
section
variable (N : Nat)
theorem nmd_m (s : Sy) : Dm (nmdT s) := namR_m.bnd fun _ => ret_m _
theorem sch_m (s : Sy) : Dm (schT (litF true N) s) := (dirs_m _).bnd fun _ => (isPR_m _).bnd fun q => (cond_m (brkT_m _ _ _) (ret_m _)).bnd fun _ => ret_m _
theorem sca_m (s : Sy) : Dm (scaT (litF true N) s) := (nmd_m s).bnd fun _ => (dirs_m _).bnd fun _ => ret_m _
theorem obj_m (s : Sy) : Dm (objT (typF N) (litF true N) N s) := (nmd_m s).bnd fun _ => (wordR_m _).bnd fun q => (cond_m (parT_m namR_m N bAmp) (ret_m _)).bnd fun _ => (dirs_m _).bnd fun _ => (optT_m _ _ _).bnd fun _ => ret_m _
theorem uni_m (s : Sy) : Dm (uniT (litF true N) N s) := (nmd_m s).bnd fun _ => (dirs_m _).bnd fun _ => (punctR_m _).bnd fun q => (cond_m (parT_m namR_m N bPipe) (ret_m _)).bnd fun _ => ret_m _
theorem enu_m (s : Sy) : Dm (enuT (litF true N) s) := (nmd_m s).bnd fun _ => (dirs_m _).bnd fun _ => (optT_m _ _ _).bnd fun _ => ret_m _
theorem inu_m (s : Sy) : Dm (inuT (typF N) (litF true N) s) := (nmd_m s).bnd fun _ => (dirs_m _).bnd fun _ => (optT_m _ _ _).bnd fun _ => ret_m _
theorem dird_m (s : Sy) : Dm (dirT (typF N) (litF true N) N s) := (wantR_m _).bnd fun _ => (nmd_m s).bnd fun _ => (optT_m _ _ _).bnd fun _ => (wordR_m _).bnd fun _ => (wwR_m _).bnd fun _ => (parT_m (wwN_m _) N bPipe).bnd fun _ => ret_m _
theorem kw_m {q : ByteArray} {E F : Cu → Sy × Cu} (h : Dm E) (k : Dm F) : Dm (kwT q E F) := (wordR_m q).bnd fun _ => cond_m h k
theorem key_m (s : Sy) : Dm (keyT (typF N) (litF true N) N s) := tokR_m.bnd fun t =>
 kw_m (sch_m N _) (kw_m (sca_m N _) (kw_m (obj_m N _) (kw_m (obj_m N _) (kw_m (uni_m N _) (kw_m (enu_m N _) (kw_m (inu_m N _) (cond_m (stopR_m _) (kw_m (dird_m N _) (stopR_m _)))))))))
end
theorem def_m (N : Nat) : Dm (defT (typF N) (litF true N) N) := noteR_m.bnd fun n => (cond_m (ret_m _) (wordR_m _)).bnd fun x => (key_m N _).bnd fun s => cond_m (stopR_m _) (ret_m _)
theorem infoSyz : ∃ i z, Tryz.prog.info? 62 = some i ∧ i.zero = some z ∧ i.size = 17 ∧ i.bytes = 272 ∧ z.cells.size = 17 := by
 have hin : (Tryz.prog.info? 62).map (fun i => (i.bytes, i.size, i.zero.map (·.cells.size))) = some (272, 17, some 17) := by kernel_rfl
 cases hq : Tryz.prog.info? 62 with
 | none => simp [hq] at hin
 | some i =>
  simp [hq] at hin
  obtain ⟨h1, h2, z, hz, h3⟩ := hin
  exact ⟨i, z, rfl, hz, h2, h1, h3⟩
set_option maxRecDepth 4000 in
set_option maxHeartbeats 8000000 in
theorem defs_ct {N B p : Nat} {c : Cu} {w : World} (hN : N ≤ 4294967296) (h : CurN N w B p c) :
  Calls Tryz.prog 21 #[.agg #[.pointer (some ⟨B, 0, none⟩)]] w fun e w' => ∃ (r : Option (List Dt)) (c' : Cu) (a : Option Addr) (n cp : Nat) (F : List Nat), defsF (sdN N) c.ts.length [] c = (r, c') ∧ e = .returned (.slice a n cp) ∧ Sh w' 17 (r.getD []) w.heap.size w'.heap.size a n cp F ∧ CurN N w' B p c' ∧ Kp B w w' := by
 have hB := h.lt
 have hp := h.plt
 have hm := h.m
 have hc0 := h.at_.ok
 have hG : ∀ cc : Cu, cc.Ok → Stp cc (defT (typF N) (litF true N) N cc).2 ∧ ((defT (typF N) (litF true N) N cc).2.kd = 0 → cc.ix < (defT (typF N) (litF true N) N cc).2.ix) := fun cc hcc => ⟨def_st N cc hcc, def_pg N cc hcc⟩
 obtain ⟨E, hE⟩ : ∃ E, E = defT (typF N) (litF true N) N := ⟨_, rfl⟩
 have hRd := Hi (fun cc W (hc : CurN N W B p cc) => def_ct hN hc)
 have hDm : Dm E := by rw [hE]; exact (def_m N)
 rw [show sdN N = optR (defT (typF N) (litF true N) N) from rfl, ← hE]
 rw [← hE] at hRd hG
 clear hE
 obtain ⟨w0, hw0⟩ : ∃ w0, w0 = w.alloc (.cells #[.pointer (some ⟨B, 0, none⟩)] 74) := ⟨_, rfl⟩
 have b0 : Below w.heap.size w w0 := by rw [hw0]; exact ba
 have z0 : w.heap.size + 1 ≤ w0.heap.size := by rw [hw0]; simp
 have p0 : w0.heap[w.heap.size]? = some (.cells #[.pointer (some ⟨B, 0, none⟩)] 74 (0, 0)) := by rw [hw0]; exact heap_alloc_new _ _
 have hc0' := h.below b0
 have hPc := Hi (fun (W : World) (hk : W.heap[w.heap.size]? = some (.cells #[.pointer (some ⟨B, 0, none⟩)] 74 (0, 0))) => show W.cell? ⟨w.heap.size, 0, none⟩ = some (.pointer (some ⟨B, 0, none⟩)) from (dt.cell_cells hk 0).trans rfl)
 obtain ⟨R, hR⟩ : ∃ R, R = defsF (optR E) c.ts.length [] c := ⟨_, rfl⟩
 have HR := Hi hR.symm
 have HR' := Hi hR.symm
 clear h hR
 have hip := Hi (fun W (cc : Cu) (hc : CurN N W B p cc) => token_ok B p cc W hc.at_)
 have hsp := Hi (fun W (cc : Cu) (hc : CurN N W B p cc) => stopped_ct hc)
 unfold Tk.cells at hip
 unfold ptr at hip
 go_enter Tryz.func21, Tryz.ntmps21
 go_wp2_with fail
 rw [← hw0]
 have K1 : Kp B w w0 := Kp.of b0
 clear hw0 b0
 go_loopg [3] c.ts.length (fun g sl wr => ∃ (l : List Dt) (cc : Cu) (Gs : List Nat), Hid (defsF (optR E) g l cc = R) ∧ CurN N wr B p cc ∧ Hid (Grow 62 17 wr (w.heap.size + 1) l sl Gs) ∧ Kp B w wr ∧ Hid (cc.ts = c.ts) ∧ c.ts.length ≤ g + cc.ix ∧ l.length + c.ix ≤ cc.ix ∧ Hid (l ≠ [] → cc.kd = 0) ∧ Hid (wr.heap[w.heap.size]? = some (.cells #[.pointer (some ⟨B, 0, none⟩)] 74 (0, 0))) ∧ w.heap.size + 1 ≤ wr.heap.size)
 case atStart => exact ⟨[], c, [], HR, hc0', Hi Grow.nil, K1, Hi rfl, Nat.le_add_right _ _, by simp, Hi (fun h => absurd rfl h), Hi p0, by omega⟩
 case round =>
  obtain ⟨l, cc, Gs, hrun, hcc, hgr, hkr, hts, hfu, hll, hal, hpr, hzr⟩ := hrel
  have hixl := hcc.at_.ok.lt
  rw [uh hts] at hixl
  obtain ⟨al, cl, hsl⟩ := (uh hgr).form
  subst hsl
  have cP := (uh hPc) wr (uh hpr)
  obtain ⟨g', rfl⟩ : ∃ g', gk = g' + 1 := ⟨gk - 1, by omega⟩
  by_cases hl0 : l.length = 0
  ·obtain rfl : l = [] := List.eq_nil_of_length_eq_zero hl0
   obtain ⟨w2, hw2⟩ : ∃ w2, w2 = wr := ⟨_, rfl⟩
   subst hw2
   have b2 := Below.refl w2.heap.size w2
   have hc2 := hcc
   have hgr2 := hgr
   have hk2 := hkr
   have hp2 := hpr
   clear hl0
   have hrun2 := Hi (show (match (optR E cc).1 with | none => (none, (optR E cc).2) | some d => defsF (optR E) g' ([] ++ [d]) (optR E cc).2) = R from by
    have e := uh hrun
    rw [defsF, if_pos (.inl rfl)] at e
    exact e)
   have hgo := hG cc hcc.at_.ok
   have hcall := Hi ((uh hRd) cc w2 hc2)
   go_wp2_with fail
   refine (uh hcall).mono ?_
   rintro e w3 ⟨d, C, k, ex, n1, n2, n3, nm, a1, m1, c1, a2, m2, c2, a3, m3, c3, a4, m4, c4, a5, m5, c5, a6, m6, c6, a7, m7, c7, rp, a8, m8, c8, ln, co, F, hEq, rfl, hho, hc3, hk3⟩
   rw [hEq] at hgo
   have hon : ∀ (hk : C.kd ≠ 0), optR E cc = (none, C) := fun hk => (optR_none (by rw [hEq]; exact hk)).trans (by rw [hEq])
   have hos : ∀ (hk : C.kd = 0), optR E cc = (some d, C) := fun hk => (optR_some (by rw [hEq]; exact hk)).trans (by rw [hEq])
   have HO := Hi (And.intro hon hos)
   have HP := Hi hho
   have HC3 := Hi hc3
   have HK3 := Hi hk3
   have hz3 := hk3.size
   have hp3 := Hi ((hk3.block w.heap.size (by omega) (by omega)).trans (uh hp2))
   have hgr3 := (uh hgr2).kp (uh HK3) (by omega)
   obtain ⟨it, zt, q1, q2, q3, q4, q5⟩ := infoSyz
   have HQ := Hi (And.intro q1 (And.intro q2 (And.intro q3 (And.intro q4 q5))))
   clear q1 q2 q3 q4 q5
   obtain ⟨xss, hr3, hol3, hx3⟩ := hgr3.row
   have hr4 := Hi hr3
   have hbyt := Hi (show (([] : List Dt).length + 1) * 272 ≤ 140737488355328 ∧ ([] : List Dt).length + 1 ≤ maxLen from ⟨by omega, by unfold maxLen; omega⟩)
   have hsz4 := Hi (show w.heap.size + 1 ≤ w3.heap.size from by have := hz3; have := b2.size; omega)
   have hone := Hi (hho.ow.one)
   have HG := Hi (And.intro hgr3 (And.intro hol3 hx3))
   have hGO := Hi hgo
   clear hgo hgr3 hr3 hol3 hx3 hcall hEq hon hos hho hc3 hk3 hrun
   unfold sysC at HP hone
   unfold sysC
   go_wp2_with (first
    | (at_builtin; refine dt.wp_snoc (by rfl) _ _ (by rfl) Tryz.underlying24 (uh HQ).1 (uh HQ).2.1 (uh HQ).2.2.1 (uh HQ).2.2.2.1 (uh HQ).2.2.2.2 (by omega) (w.heap.size + 1) ([] : List Dt).length xss.flatten _ (by rfl) (uh hr4) [.int .i64 k, .bool ex, .bool n1, .bool n2, .string n3, .string nm, .slice a1 m1 c1, .slice a2 m2 c2, .slice a3 m3 c3, .slice a4 m4 c4, .slice a5 m5 c5, .slice a6 m6 c6, .slice a7 m7 c7, .bool rp, .slice a8 m8 c8, .int .i64 ln, .int .i64 co] (by rfl) (uh hone) w3.heap.size (by rfl) (by rfl) (uh hbyt).1 (uh hbyt).2 (uh hsz4) ?_; intro sl' w7 hr7 b7 hold7 hat7; have cP7 := (uh hPc) w7 ((b7.block w.heap.size (Nat.lt_succ_self _)).trans (uh hp3)); have H7 := Hi (And.intro hr7 (And.intro b7 (And.intro hold7 hat7))); clear hr7 b7 hold7 hat7))
   obtain ⟨hr7, b7, hold7, hat7⟩ := uh H7
   obtain ⟨hgr3, hol3, hx3⟩ := uh HG
   have HPo := uh HP
   have hown := fun b (hb : (Value.slice al ([] : List Dt).length cl).ownBlock = some b) => (let ⟨_, hr, _⟩ := (uh hgr2).row; (hr.lt b hb).2)
   have hsz : w.heap.size ≤ w2.heap.size := hk2.size
   have hmore := hgr3.more hol3 hx3 HPo.ow HPo.nd (fun b hb => ⟨by have := (HPo.rng b hb).1; omega, by have := (HPo.rng b hb).2; omega, fun hm => by have := ((uh hgr2).rng b hm).2; have := (HPo.rng b hb).1; omega, fun e => by have := hown b e; have := (HPo.rng b hb).1; omega⟩) (by rfl) hr7 (by have := (hr7.lt); have := b7.size; exact this) hold7 hat7
   have hBs : B < w3.heap.size := by omega
   have b7' := b7.mono (Nat.le_succ w.heap.size)
   have C7 := (uh HC3).low b7' hB hp
   have K7 := (hk2.trans (uh HK3)).low b7'
   have p7 := (b7.block w.heap.size (Nat.lt_succ_self _)).trans (uh hp3)
   have z7 : w.heap.size + 1 ≤ w7.heap.size := by have := b7.size; omega
   have hst7 := (uh hsp) w7 C C7
   by_cases hk : C.kd = 0
   ·rw [show (C.kd != 0) = false by simpa using hk] at hst7
    have hrun3 := Hi (show defsF (optR E) g' ([] ++ [d]) C = R from by have e := uh hrun2; rw [(uh HO).2 hk] at e; exact e)
    have hix3 : cc.ix < C.ix := (uh hGO).2 hk
    have hts3 := (uh hGO).1.ts
    have hlt3 := (uh hGO).1.ok.lt
    have hTS := Hi hts3
    have HKD := Hi hk
    have HM := Hi hmore
    rw [hts3, uh hts] at hlt3
    clear hr7 b7 hold7 hat7 hgr3 hol3 hx3 hown hmore hts3 HO hGO hrun2 H7 hr4 HQ hbyt hsz4 hone b7'
    refine hst7.mono ?_
    rintro e w8 ⟨rfl, C8, K8⟩
    have z8 := K8.size
    clear hst7 C7 hk
    go_wp2_with fail
    go_roundg g'
    case rel =>
     refine ⟨[] ++ [d], C, Gs ++ F, hrun3, C8, Hi ((uh HM).kp K8 (by omega)), K7.trans K8, Hi ((uh hTS).trans (uh hts)), by omega, by rw [List.length_append]; simp; omega, Hi (fun _ => uh HKD), Hi ((K8.block w.heap.size (by omega) (by omega)).trans p7), by omega⟩
    case measure => exact Nat.lt_succ_self _
   ·rw [show (C.kd != 0) = true by simpa using hk] at hst7
    have hrun3 := Hi (show (none, C) = R from by have e := uh hrun2; rw [(uh HO).1 hk] at e; exact e)
    clear hr7 b7 hold7 hat7 hgr3 hol3 hx3 hown hmore HO hGO hrun2 H7 hr4 HQ hbyt hsz4 hone b7'
    refine hst7.mono ?_
    rintro e w8 ⟨rfl, C8, K8⟩
    clear hst7 C7 hk
    go_wp2_with fail
    go_ret
    exact ⟨none, C, none, 0, 0, [], (uh HR').trans (uh hrun3).symm, rfl, Sh.nil (Nat.le_refl _), C8, K7.trans K8⟩
  ·have hlz : ¬ ((l.length : Int) = 0) := by omega
   have hlz1 : ¬ (l = []) := fun e => hl0 (by rw [e]; rfl)
   obtain ⟨t, et⟩ : ∃ t, t = cc.tok := ⟨_, rfl⟩
   have hip2 := Hi ((uh hip) wr cc hcc)
   have hf1 := fld_kind t
   rw [← et] at hip2
   have hkd0 := (uh hal) hlz1
   by_cases hQ0 : t.k = 0
   ·have et0 : (t.k != 0) = false := by rw [hQ0]; rfl
    have hrun2 := Hi (show (some l, cc) = R from by
     have e := uh hrun
     rw [defsF, if_neg (fun e => by rcases e with e | e; exact hl0 e; exact e (et ▸ hQ0))] at e
     have hb : cc.finB = true := decide_eq_true ⟨hkd0, et ▸ hQ0⟩
     rw [hb] at e
     have hf : cc.fin = cc := by unfold Cu.fin; rw [if_pos hb]
     rw [hf] at e
     exact e)
    clear hrun hQ0 et hkd0
    go_wp2_with fail
    refine (uh hip2).mono ?_
    rintro e w2 ⟨rfl, b2⟩
    have hc2 := hcc.below b2
    have hgr2 := Hi ((uh hgr).keep b2.size (fun b hb _ => b2.block b hb))
    have hk2 := hkr.trans (Kp.of b2)
    clear hip2
    go_wp2_with fail
    go_ret
    obtain ⟨a', n', c', F', he', hSh⟩ := Sh.of ((uh hgr2).lo (Nat.le_succ _))
    injection he' with e1 e2 e3
    subst e1 e2 e3
    exact ⟨some l, cc, _, _, _, F', (uh HR').trans (uh hrun2).symm, rfl, hSh, hc2, hk2⟩
   have hQ : cc.tok.k ≠ 0 := by rw [← et]; exact hQ0
   have et1 : (t.k != 0) = true := by simpa using hQ0
   clear hQ0 hkd0
   clear et
   go_wp2_with fail
   refine (uh hip2).mono ?_
   rintro e w2 ⟨rfl, b2⟩
   have hc2 := hcc.below b2
   have hgr2 := Hi ((uh hgr).keep b2.size (fun b hb _ => b2.block b hb))
   have hk2 := hkr.trans (Kp.of b2)
   have hs2 := b2.size
   have hp2 := Hi ((b2.block w.heap.size (by omega)).trans (uh hpr))
   have cP2 := (uh hPc) w2 (uh hp2)
   clear hip2
   have hrun2 := Hi (show (match (optR E cc).1 with | none => (none, (optR E cc).2) | some d => defsF (optR E) g' (l ++ [d]) (optR E cc).2) = R from by
    have e := uh hrun
    rw [defsF, if_pos (.inr hQ)] at e
    exact e)
   have hgo := hG cc hcc.at_.ok
   have hcall := Hi ((uh hRd) cc w2 hc2)
   go_wp2_with fail
   refine (uh hcall).mono ?_
   rintro e w3 ⟨d, C, k, ex, n1, n2, n3, nm, a1, m1, c1, a2, m2, c2, a3, m3, c3, a4, m4, c4, a5, m5, c5, a6, m6, c6, a7, m7, c7, rp, a8, m8, c8, ln, co, F, hEq, rfl, hho, hc3, hk3⟩
   rw [hEq] at hgo
   have hon : ∀ (hk : C.kd ≠ 0), optR E cc = (none, C) := fun hk => (optR_none (by rw [hEq]; exact hk)).trans (by rw [hEq])
   have hos : ∀ (hk : C.kd = 0), optR E cc = (some d, C) := fun hk => (optR_some (by rw [hEq]; exact hk)).trans (by rw [hEq])
   have HO := Hi (And.intro hon hos)
   have HP := Hi hho
   have HC3 := Hi hc3
   have HK3 := Hi hk3
   have hz3 := hk3.size
   have hp3 := Hi ((hk3.block w.heap.size (by omega) (by omega)).trans (uh hp2))
   have hgr3 := (uh hgr2).kp (uh HK3) (by omega)
   obtain ⟨it, zt, q1, q2, q3, q4, q5⟩ := infoSyz
   have HQ := Hi (And.intro q1 (And.intro q2 (And.intro q3 (And.intro q4 q5))))
   clear q1 q2 q3 q4 q5
   obtain ⟨xss, hr3, hol3, hx3⟩ := hgr3.row
   have hr4 := Hi hr3
   have hbyt := Hi (show (l.length + 1) * 272 ≤ 140737488355328 ∧ l.length + 1 ≤ maxLen from ⟨by omega, by unfold maxLen; omega⟩)
   have hsz4 := Hi (show w.heap.size + 1 ≤ w3.heap.size from by have := hz3; have := b2.size; omega)
   have hone := Hi (hho.ow.one)
   have HG := Hi (And.intro hgr3 (And.intro hol3 hx3))
   have hGO := Hi hgo
   clear hgo hgr3 hr3 hol3 hx3 hcall hEq hon hos hho hc3 hk3 hrun
   unfold sysC at HP hone
   unfold sysC
   go_wp2_with (first
    | (at_builtin; refine dt.wp_snoc (by rfl) _ _ (by rfl) Tryz.underlying24 (uh HQ).1 (uh HQ).2.1 (uh HQ).2.2.1 (uh HQ).2.2.2.1 (uh HQ).2.2.2.2 (by omega) (w.heap.size + 1) l.length xss.flatten _ (by rfl) (uh hr4) [.int .i64 k, .bool ex, .bool n1, .bool n2, .string n3, .string nm, .slice a1 m1 c1, .slice a2 m2 c2, .slice a3 m3 c3, .slice a4 m4 c4, .slice a5 m5 c5, .slice a6 m6 c6, .slice a7 m7 c7, .bool rp, .slice a8 m8 c8, .int .i64 ln, .int .i64 co] (by rfl) (uh hone) w3.heap.size (by rfl) (by rfl) (uh hbyt).1 (uh hbyt).2 (uh hsz4) ?_; intro sl' w7 hr7 b7 hold7 hat7; have cP7 := (uh hPc) w7 ((b7.block w.heap.size (Nat.lt_succ_self _)).trans (uh hp3)); have H7 := Hi (And.intro hr7 (And.intro b7 (And.intro hold7 hat7))); clear hr7 b7 hold7 hat7))
   obtain ⟨hr7, b7, hold7, hat7⟩ := uh H7
   obtain ⟨hgr3, hol3, hx3⟩ := uh HG
   have HPo := uh HP
   have hown := fun b (hb : (Value.slice al l.length cl).ownBlock = some b) => (let ⟨_, hr, _⟩ := (uh hgr2).row; (hr.lt b hb).2)
   have hsz : w.heap.size ≤ w2.heap.size := hk2.size
   have hmore := hgr3.more hol3 hx3 HPo.ow HPo.nd (fun b hb => ⟨by have := (HPo.rng b hb).1; omega, by have := (HPo.rng b hb).2; omega, fun hm => by have := ((uh hgr2).rng b hm).2; have := (HPo.rng b hb).1; omega, fun e => by have := hown b e; have := (HPo.rng b hb).1; omega⟩) (by rfl) hr7 (by have := (hr7.lt); have := b7.size; exact this) hold7 hat7
   have hBs : B < w3.heap.size := by omega
   have b7' := b7.mono (Nat.le_succ w.heap.size)
   have C7 := (uh HC3).low b7' hB hp
   have K7 := (hk2.trans (uh HK3)).low b7'
   have p7 := (b7.block w.heap.size (Nat.lt_succ_self _)).trans (uh hp3)
   have z7 : w.heap.size + 1 ≤ w7.heap.size := by have := b7.size; omega
   have hst7 := (uh hsp) w7 C C7
   by_cases hk : C.kd = 0
   ·rw [show (C.kd != 0) = false by simpa using hk] at hst7
    have hrun3 := Hi (show defsF (optR E) g' (l ++ [d]) C = R from by have e := uh hrun2; rw [(uh HO).2 hk] at e; exact e)
    have hix3 : cc.ix < C.ix := (uh hGO).2 hk
    have hts3 := (uh hGO).1.ts
    have hlt3 := (uh hGO).1.ok.lt
    have hTS := Hi hts3
    have HKD := Hi hk
    have HM := Hi hmore
    rw [hts3, uh hts] at hlt3
    clear hr7 b7 hold7 hat7 hgr3 hol3 hx3 hown hmore hts3 HO hGO hrun2 H7 hr4 HQ hbyt hsz4 hone b7'
    refine hst7.mono ?_
    rintro e w8 ⟨rfl, C8, K8⟩
    have z8 := K8.size
    clear hst7 C7 hk
    go_wp2_with fail
    go_roundg g'
    case rel =>
     refine ⟨l ++ [d], C, Gs ++ F, hrun3, C8, Hi ((uh HM).kp K8 (by omega)), K7.trans K8, Hi ((uh hTS).trans (uh hts)), by omega, by rw [List.length_append]; simp; omega, Hi (fun _ => uh HKD), Hi ((K8.block w.heap.size (by omega) (by omega)).trans p7), by omega⟩
    case measure => exact Nat.lt_succ_self _
   ·rw [show (C.kd != 0) = true by simpa using hk] at hst7
    have hrun3 := Hi (show (none, C) = R from by have e := uh hrun2; rw [(uh HO).1 hk] at e; exact e)
    clear hr7 b7 hold7 hat7 hgr3 hol3 hx3 hown hmore HO hGO hrun2 H7 hr4 HQ hbyt hsz4 hone b7'
    refine hst7.mono ?_
    rintro e w8 ⟨rfl, C8, K8⟩
    clear hst7 C7 hk
    go_wp2_with fail
    go_ret
    exact ⟨none, C, none, 0, 0, [], (uh HR').trans (uh hrun3).symm, rfl, Sh.nil (Nat.le_refl _), C8, K7.trans K8⟩
open mem (Row)
theorem result_tmp_row {P : Program} {fn : Func} {p u : Tmp} {ty : TypeId} (h : fn.results = #[.tmp u, .cell p ty]) (tmps : Array Value) (w : World) (b o : Nat) (cs : List Value) (d : TypeDesc) (hp : tmps.getD p undef = .pointer (some ⟨b, o, none⟩)) (hc : w.rangeAt b o cs)
  (hu : P.underlying ty = some d) (hd : d.isRow = true) (hi : (P.info? ty).map (·.size) = some cs.length) : (results fn tmps).run P w = .ok (.tuple #[tmps.getD u undef, .agg cs.toArray]) w := by
 have := run_loadVar_mid (P := P) w b o ty cs d hc hu hd hi
 have hp' : tmps[p]?.getD undef = .pointer (some ⟨b, o, none⟩) := by simpa using hp
 simp [results, h, hp', asAddr, this]
theorem FltAt.below {lo : Nat} {w w' : World} {c : Cu} {fs : List Value} (h : FltAt lo w c fs) (b : Below w.heap.size w w') : FltAt lo w' c fs := by
 unfold FltAt at h ⊢
 split
 ·rename_i hk; rw [if_pos hk] at h; exact h
 ·rename_i hk
  rw [if_neg hk] at h
  obtain ⟨x, y1, y2, y3, y4, y5⟩ := h
  exact ⟨x, y1, Nat.lt_of_lt_of_le y2 b.size, y3, (b.cell (p := ⟨x, 0, none⟩) y2).trans y4, (b.cell (p := ⟨x, 1, none⟩) y2).trans y5⟩
theorem FltAt.lo {lo lo' : Nat} {w : World} {c : Cu} {fs : List Value} (h : FltAt lo w c fs) (hl : lo' ≤ lo) : FltAt lo' w c fs := by
 unfold FltAt at h ⊢
 split
 ·rename_i hk; rw [if_pos hk] at h; exact h
 ·rename_i hk
  rw [if_neg hk] at h
  obtain ⟨x, y1, y2, y3, y4, y5⟩ := h
  exact ⟨x, by omega, y2, y3, y4, y5⟩
theorem FltAt.outC {lo : Nat} {w : World} {c : Cu} {fs : List Value} (h : FltAt lo w c fs) {b : Nat} (hb : b < lo) (o : Nat) (v : Value) : FltAt lo (w.setCell ⟨b, o, none⟩ v) c fs := by
 unfold FltAt at h ⊢
 split
 ·rename_i hk; rw [if_pos hk] at h; exact h
 ·rename_i hk
  rw [if_neg hk] at h
  obtain ⟨x, y1, y2, y3, y4, y5⟩ := h
  exact ⟨x, y1, by rw [size_setC]; exact y2, y3, (dt.cell_blk (Below.heap_setCell w _ _ _ (by show x ≠ b; omega)) 0).trans y4, (dt.cell_blk (Below.heap_setCell w _ _ _ (by show x ≠ b; omega)) 1).trans y5⟩
set_option maxRecDepth 4000 in
set_option maxHeartbeats 2000000 in
theorem parse_ct (a : Option Addr) (n c : Nat) (z : List Int) (d : Int) (w : World) (h : Row .u8 w a n c z) (hn : n ≤ 1073741824) (hz : mem.Byt z) (hd : (Lit.int .i64 d).wf = true) :
  Calls Tryz.prog 9 #[.slice a n c, .int .i64 d] w fun e w' => ∃ (r : Option (List Dt)) (C : Cu) (a' : Option Addr) (n' c' : Nat) (F : List Nat) (fs : List Value), sdocS (newG z d) = (r, C) ∧ e = .returned (.tuple #[.slice a' n' c', .agg fs.toArray]) ∧ Sh w' 17 (r.getD []) w.heap.size w'.heap.size a' n' c' F ∧ FltAt w.heap.size w' C fs ∧ Below w.heap.size w w' := by
 have hN := Hi (fun W (bb : Below w.heap.size w W) => newG_ok a n c z d W (h.below bb) (by omega) hz hd)
 have hl : (newG z d).ts.length ≤ 4294967296 := by have := toks_len z hz; rw [h.len] at this; show (lx.toks z).length ≤ _; omega
 have hD := Hi (fun B p W (hc : CurAt W B p (newG z d)) => defs_ct (N := (newG z d).ts.length) hl (⟨hc, Nat.le_refl _, hl⟩ : CurN (newG z d).ts.length W B p (newG z d)))
 have hS := Hi (show sdocS (newG z d) = defsF (sdN (newG z d).ts.length) (newG z d).ts.length [] (newG z d) from rfl)
 obtain ⟨C0, hC0⟩ : ∃ C0, C0 = newG z d := ⟨_, rfl⟩
 rw [← hC0] at hN hD hS ⊢
 obtain ⟨NN, hNN⟩ : ∃ NN, NN = C0.ts.length := ⟨_, rfl⟩
 rw [← hNN] at hD hS
 clear h hC0 hNN hl
 go_enter Tryz.func9, Tryz.ntmps9
 go_wp2_with fail
 obtain ⟨W0, gW0⟩ : ∃ W0, W0 = w.alloc (.cells #[.int .i64 0, .slice none 0 0, .slice none 0 0] 29) := ⟨_, rfl⟩
 have f0 : W0.heap[w.heap.size]? = some (.cells #[.int .i64 0, .slice none 0 0, .slice none 0 0] 29 (0, 0)) := by rw [gW0]; exact heap_alloc_new _ _
 have bw : Below w.heap.size w W0 := by rw [gW0]; exact ba
 have sz0 : w.heap.size + 1 ≤ W0.heap.size := by rw [gW0]; simp
 rw [← gW0]
 clear gW0
 refine ((uh hN) W0 bw).mono ?_
 rintro e w1 ⟨B, p, rfl, hB, hp0, hc1, b1⟩
 have hBl := hc1.lt
 have hpl := hc1.plt
 have sz1 := b1.size
 obtain ⟨W2, hW2⟩ : ∃ W2, W2 = w1.alloc (.cells #[.pointer (some ⟨B, 0, none⟩)] 74) := ⟨_, rfl⟩
 have b2 : Below w1.heap.size w1 W2 := by rw [hW2]; exact ba
 have g2 : W2.heap[w1.heap.size]? = some (.cells #[.pointer (some ⟨B, 0, none⟩)] 74 (0, 0)) := by rw [hW2]; exact heap_alloc_new _ _
 have sz2 : w1.heap.size + 1 ≤ W2.heap.size := by rw [hW2]; simp
 have hc2 := hc1.below b2
 have bw2 := b1.trans (b2.mono b1.size)
 clear hN hc1
 unfold ptr
 go_wp2_with fail
 rw [← hW2]
 clear hW2
 refine ((uh hD) B p W2 hc2).mono ?_
 rintro e w3 ⟨r, C, a', n', c', F, qE, rfl, hsh, hc3, hk3⟩
 have hfin := Hi ((uh hS).trans qE)
 have sz3 := hk3.size
 have b03 : Below W0.heap.size W0 w3 := bw2.trans (hk3.below (by omega) (by omega))
 have F0 := (b03.block w.heap.size (by omega)).trans f0
 have G2 := (hk3.block w1.heap.size (by omega) (by omega)).trans g2
 have cP : w3.cell? ⟨w1.heap.size, 0, none⟩ = some (.pointer (some ⟨B, 0, none⟩)) := (dt.cell_cells G2 0).trans rfl
 have BW := bw.trans (b03.mono bw.size)
 have hFl := Hi (faultC_ok B p C w3 hc3.at_)
 have HH := Hi (And.intro F0 (And.intro hsh BW))
 clear f0 g2 bw b1 b2 bw2 b03 F0 G2 BW hc2 hD hk3 qE hS hsh hc3
 unfold ptr at hFl
 go_wp2_with fail
 refine (uh hFl).mono ?_
 rintro e w4 ⟨k, fa, fn, fc, rfl, hflt, b4⟩
 clear hFl cP
 obtain ⟨F0, hsh, BW⟩ := uh HH
 have sz4 := b4.size
 obtain ⟨W5, hW5⟩ : ∃ W5, W5 = w4.alloc (.cells #[.int .i64 k, .slice fa fn fc, .slice none 0 0] 29) := ⟨_, rfl⟩
 have b5 : Below w4.heap.size w4 W5 := by rw [hW5]; exact ba
 have b45 := b4.trans (b5.mono b4.size)
 have g5 : W5.heap[w4.heap.size]? = some (.cells #[.int .i64 k, .slice fa fn fc, .slice none 0 0] 29 (0, 0)) := by rw [hW5]; exact heap_alloc_new _ _
 have sz5 : w4.heap.size + 1 ≤ W5.heap.size := by rw [hW5]; simp
 have hfl5 := hflt.below b5
 have hsh5 := hsh.below b45
 have F5 := (b45.block w.heap.size (by omega)).trans F0
 have BW5 := BW.trans (b45.mono BW.size)
 clear HH F0 hsh BW hflt b4 b5 b45
 have HH := Hi (And.intro g5 (And.intro hfl5 (And.intro hsh5 (And.intro F5 BW5))))
 have d0 : W5.cell? ⟨w4.heap.size, 0, none⟩ = some (.int .i64 k) := (dt.cell_cells g5 0).trans rfl
 have d1 : W5.cell? ⟨w4.heap.size, 1, none⟩ = some (.slice fa fn fc) := (dt.cell_cells g5 1).trans rfl
 have d2 : W5.cell? ⟨w4.heap.size, 2, none⟩ = some (.slice none 0 0) := (dt.cell_cells g5 2).trans rfl
 have r0 : W5.cell? ⟨w.heap.size, 0, none⟩ = some (.int .i64 0) := (dt.cell_cells F5 0).trans rfl
 have r1 : W5.cell? ⟨w.heap.size, 1, none⟩ = some (.slice none 0 0) := (dt.cell_cells F5 1).trans rfl
 have r2 : W5.cell? ⟨w.heap.size, 2, none⟩ = some (.slice none 0 0) := (dt.cell_cells F5 2).trans rfl
 have z0 : W5.frozen? ⟨w.heap.size, 0, none⟩ = false := dt.frozen_cells F5 0
 have z1 : W5.frozen? ⟨w.heap.size, 1, none⟩ = false := dt.frozen_cells F5 1
 have z2 : W5.frozen? ⟨w.heap.size, 2, none⟩ = false := dt.frozen_cells F5 2
 have HW5 := Hi hW5
 clear g5 hfl5 hsh5 F5 BW5 hW5
 go_wp2_with fail
 rw [← uh HW5]
 go_region
 obtain ⟨g5, hfl5, hsh5, F5, BW5⟩ := uh HH
 obtain ⟨X, hX⟩ : ∃ X, X = ((W5.setCell ⟨w.heap.size, 0, none⟩ (.int .i64 k)).setCell ⟨w.heap.size, 1, none⟩ (.slice fa fn fc)).setCell ⟨w.heap.size, 2, none⟩ (.slice none 0 0) := ⟨_, rfl⟩
 have h1 : (W5.setCell ⟨w.heap.size, 0, none⟩ (.int .i64 k)).heap[w.heap.size]? = some (.cells #[.int .i64 k, .slice none 0 0, .slice none 0 0] 29 (0, 0)) := (dt.heap_setCell_at F5 0 _).trans (by kernel_rfl)
 have h2 := (dt.heap_setCell_at h1 1 (.slice fa fn fc)).trans (show _ = some (Obj.cells #[.int .i64 k, .slice fa fn fc, .slice none 0 0] 29 (0, 0)) by kernel_rfl)
 have h3 := (dt.heap_setCell_at h2 2 (.slice none 0 0)).trans (show _ = some (Obj.cells #[.int .i64 k, .slice fa fn fc, .slice none 0 0] 29 (0, 0)) by kernel_rfl)
 have fl3 := ((hfl5.outC (b := w.heap.size) (by omega) 0 (.int .i64 k)).outC (b := w.heap.size) (by omega) 1 (.slice fa fn fc)).outC (b := w.heap.size) (by omega) 2 (.slice none 0 0)
 have sh3 := ((hsh5.outC (b := w.heap.size) (.inl (by omega)) 0 (.int .i64 k)).outC (b := w.heap.size) (.inl (by omega)) 1 (.slice fa fn fc)).outC (b := w.heap.size) (.inl (by omega)) 2 (.slice none 0 0)
 have bw3 := dt.below_setCells w.heap.size [.slice none 0 0] 2 _ (dt.below_setCells w.heap.size [.slice fa fn fc] 1 _ (dt.below_setCells w.heap.size [.int .i64 k] 0 _ BW5 (Nat.le_refl _)) (Nat.le_refl _)) (Nat.le_refl _)
 have szx : X.heap.size = W5.heap.size := by rw [hX]; simp only [size_setC]
 have bX : Below w.heap.size w X := by rw [hX]; exact bw3
 rw [← hX] at h3 fl3 sh3 ⊢
 have bD : Below X.heap.size X X.drew := (Below.refl _ _).drew
 clear hX bw3 h1 h2
 go_wp2_with fail
 refine bodyPost_ret (result_tmp_row rfl _ _ w.heap.size 0 [.int .i64 k, .slice fa fn fc, .slice none 0 0] _ rfl (dt.range_cells ((bD.block _ (by omega)).trans h3) 0 [.int .i64 k, .slice fa fn fc, .slice none 0 0] (fun j u hu => by rw [Nat.zero_add]; simpa using hu)) Tryz.underlying29 rfl infoFl) rfl ?_
 have shD := (sh3.below bD).lo (lo' := w.heap.size) (by omega)
 have hszD := bD.size
 exact ⟨r, C, a', n', c', F, _, uh hfin, rfl, ⟨shD.nc, shD.cm, shD.no, shD.nd, fun b hb => ⟨(shD.rng b hb).1, by have := (shD.rng b hb).2; omega⟩, Nat.le_refl _, shD.len, shD.at_⟩, (fl3.below bD).lo (by omega), bX.trans (bD.mono bX.size)⟩
end Go.Proofs.YtifbkdicglcogaaGreat.cu
namespace Go.Proofs.YtifbkdicglcogaaGreat.mem
open Go.ChangeShapes Go.WideShapes Go.ChangeAt Go.RowKit
open ints (Hi uh)
end Go.Proofs.YtifbkdicglcogaaGreat.mem
namespace Go.Proofs.YtifbkdicglcogaaGreat.cu
open Go.ChangeShapes Go.WideShapes Go.ChangeAt Go.RowKit
open ints (Hi uh)
open mem (Row)
open lx (toks chs cln)
structure Bsl (w : World) (base g n cap : Nat) (zs : List Int) : Prop where
 len : zs.length = n
 nc : n ≤ cap
 cm : cap ≤ maxLen
 bs : base ≤ g
 lt : g < w.heap.size
 there : w.there g 0 cap
 cells : ∀ i, i < n → w.cell? ⟨g, i, none⟩ = some (.int .u8 (zs.getD i 0))
theorem Bsl.row {w : World} {base g n cap : Nat} {zs : List Int} (h : Bsl w base g n cap zs) : Row .u8 w (some ⟨g, 0, none⟩) n cap zs :=
 ⟨h.len, h.nc, (fun e => by cases e), .inr ⟨g, 0, rfl, h.lt, fun i hi => by rw [Nat.zero_add]; exact h.cells i hi⟩⟩
theorem Bsl.own {w : World} {base : Nat} {e : TypeId} {g n cap : Nat} {zs : List Int} (h : w.ownsRow base e 1 (.slice (some ⟨g, 0, none⟩) n cap) n (zs.map (Value.int .u8))) : Bsl w base g n cap zs := by
 rcases h.2 with ⟨h0, _⟩ | ⟨g', cap', cur, hv, hb, hg, hnc, hcm, hcs, ht⟩
 ·cases h0
 ·injection hv with e1 e2 e3
  injection e1 with e1
  injection e1 with e1
  subst e1 e3
  have hl : zs.length = n := by have := h.1; simpa using this
  refine ⟨hl, hnc, hcm, hb, (Array.getElem?_eq_some_iff.1 hg).1, dt.there_cells hg (by omega), fun i hi => ?_⟩
  rw [dt.cell_cells hg i]
  have : cur.toList[i]? = some (.int .u8 (zs.getD i 0)) := by
   have h2 : (cur.toList.take (n * 1))[i]? = (zs.map (Value.int .u8))[i]? := by rw [ht]
   rw [List.getElem?_take, if_pos (by omega)] at h2
   rw [h2]
   simp [List.getD, hl, hi]
  simpa using this
open dt (Dt Kp RowAt Ow Grow OwIn)
open mem (Row belowNone)
set_option maxRecDepth 4000 in
theorem copied10_ok (a : Option Addr) (n c : Nat) (zs : List Int) (w : World) (h : Row .u8 w a n c zs) (hn : n ≤ 281474976710656) :
  Calls Tryz.prog 10 #[.slice a n c] w fun e w' => e = .returned (.slice (some ⟨w.heap.size, 0, none⟩) n n) ∧ Bsl w' w.heap.size w.heap.size n n zs ∧ Below w.heap.size w w' := by
 obtain ⟨i0, hi, hz0, hz1, hz2⟩ := info_parts mem.info8
 go_enter Tryz.func10, Tryz.ntmps10
 have hl : (zs.map (Value.int .u8)).length = n * 1 := by simp [h.len]
 have h00 := h.nil
 have hle := h.le
 go_wp2_with (first
  | (refine wpList_make_own _ rfl _ _ 22 rfl w.heap.size 5 i0 (.int .u8 0) 1 Tryz.underlying22 hi hz0 hz1 .i64 .i64 _ n rfl rfl rfl (by rw [hz2]; omega) (by unfold maxLen; omega) (Nat.le_refl _) ?_; intro w1 hown hgrow)
  | (at_builtin; refine wpList_append_fits_any _ rfl (.tmp 7) (.tmp 8) 22 rfl w.heap.size 5 i0 1 Tryz.underlying22 hi hz1 w.heap.size 0 n [] rfl hown a n c (zs.map (Value.int .u8)) rfl hl (fun e => ⟨by have := h00 e; omega, h00 e⟩) (h.below (belowNone hgrow)).cells (ints_oneCell _ _) (by omega) ?_; intro w2 hown2 hgrow2))
 go_ret
 simp only [Nat.zero_add, List.nil_append] at hown2 ⊢
 exact ⟨rfl, Bsl.own hown2, (belowNone hgrow).grown hgrow2 hgrow.size (fun k hk => by obtain rfl := Option.some.inj hk; exact Nat.le_refl _)⟩

def ssrc1 : ByteArray := ⟨#[34, 100, 34, 32, 116, 121, 112, 101, 32, 116, 121, 112, 101, 123, 116, 121, 112, 101, 58, 116, 121, 112, 101, 125]⟩
def ssrc2 : ByteArray := ⟨#[101, 120, 116, 101, 110, 100, 32, 116, 121, 112, 101, 32, 84, 32, 116, 121, 112, 101, 32, 85]⟩
def ns : ByteArray := ⟨#[100]⟩
def sy1 : Sy := ⟨3, false, (true, false, ns), bType, [], [], [fdD (false, false, em) (bType, 1, 15) [] bType em []], [], [], [], [], false, [], 1, 10⟩
theorem sdoc1 : (sdocG (mem.bytesZ ssrc1) 9).1 = some [sy1.d] := by kernel_rfl
theorem sdoc1k : (sdocG (mem.bytesZ ssrc1) 9).2.kd = 0 := by kernel_rfl
theorem sdoc2 : (sdocG (mem.bytesZ ssrc2) 9).1 = none := by kernel_rfl
theorem sdoc2k : (sdocG (mem.bytesZ ssrc2) 9).2.kd = 70 ∧ (sdocG (mem.bytesZ ssrc2) 9).2.tok.ln = 1 ∧ (sdocG (mem.bytesZ ssrc2) 9).2.tok.co = 15 := by refine ⟨?_, ?_, ?_⟩ <;> kernel_rfl
theorem val_row {w : World} {v : Value} {r : Dt} {cs : List Value} {F : List Nat} (h : Ow w (.val v r) cs F) : ∃ ds, cs = v :: ds ∧ Ow w r ds F := by
 unfold Ow at h
 obtain ⟨ds, h1, _, h2⟩ := h
 exact ⟨ds, h1, h2⟩
theorem lst_row {w : World} {k : Nat} {e r : Dt} {cs : List Value} {F : List Nat} (h : Ow w (.lst k (Dt.of [e]) r) cs F) : ∃ p c ds cs' G F2, cs = .slice (some ⟨p, 0, none⟩) 1 c :: ds ∧ RowAt w p 0 cs' ∧ Ow w e cs' G ∧ Ow w r ds F2 := by
 unfold Ow at h
 obtain ⟨a, n, c, ds, F1, F2, rfl, _, _, _, h4, h5, rfl⟩ := h
 rcases h4 with ⟨_, h4, _⟩ | ⟨p, G, rfl, rfl, h4⟩
 ·exact absurd h4 (by unfold Dt.of; intro e; cases e)
 ·unfold Dt.of OwIn at h4
  obtain ⟨m, cs', G1, G2, rfl, h6, _, h7, h8, rfl⟩ := h4
  unfold Dt.of OwIn at h8
  obtain ⟨rfl, _⟩ := h8
  exact ⟨p, c, ds, cs', G1, F2, rfl, h6, h7, h5⟩
theorem lst_nil {w : World} {k : Nat} {r : Dt} {cs : List Value} {F : List Nat} (h : Ow w (.lst k (Dt.of []) r) cs F) : ∃ a c ds F2, cs = .slice a 0 c :: ds ∧ Ow w r ds F2 := by
 unfold Ow at h
 obtain ⟨a, n, c, ds, F1, F2, rfl, _, _, _, h4, h5, rfl⟩ := h
 rcases h4 with ⟨_, _, rfl, _⟩ | ⟨p, G, rfl, rfl, h4⟩
 ·exact ⟨a, c, ds, F2, rfl, h5⟩
 ·unfold Dt.of OwIn at h4
  obtain ⟨rfl, _⟩ := h4
  exact ⟨_, c, ds, F2, rfl, h5⟩
theorem one_row {w : World} {k : Nat} {d : Dt} {lo hi : Nat} {a : Option Addr} {n c : Nat} {F : List Nat} (h : Sh w k [d] lo hi a n c F) : ∃ p cs G, a = some ⟨p, 0, none⟩ ∧ n = 1 ∧ RowAt w p 0 cs ∧ Ow w d cs G := by
 rcases h.at_ with ⟨_, h4, _⟩ | ⟨p, G, rfl, rfl, h4⟩
 ·exact absurd h4 (by unfold Dt.of; intro e; cases e)
 ·unfold Dt.of OwIn at h4
  obtain ⟨m, cs', G1, G2, h5, h6, _, h7, h8, rfl⟩ := h4
  exact ⟨p, cs', G1, rfl, h.len, h6, h7⟩
theorem sy1_cells {w : World} {lo hi : Nat} {a : Option Addr} {n c : Nat} {F : List Nat} (h : Sh w 17 [sy1.d] lo hi a n c F) : ∃ p pf cf, a = some ⟨p, 0, none⟩ ∧ n = 1 ∧ p < w.heap.size ∧ pf < w.heap.size ∧ w.cell? ⟨p, 0, none⟩ = some (.int .i64 3) ∧ w.cell? ⟨p, 2, none⟩ = some (.bool true) ∧ w.cell? ⟨p, 4, none⟩ = some (.string ns) ∧ w.cell? ⟨p, 5, none⟩ = some (.string bType) ∧ w.cell? ⟨p, 8, none⟩ = some (.slice (some ⟨pf, 0, none⟩) 1 cf) ∧ w.cell? ⟨p, 15, none⟩ = some (.int .i64 1) ∧ w.cell? ⟨p, 16, none⟩ = some (.int .i64 10) ∧ w.cell? ⟨pf, 5, none⟩ = some (.string bType) := by
 obtain ⟨p, cs, G1, rfl, rfl, hr, how⟩ := one_row h
 unfold sy1 Sy.d ntD at how
 obtain ⟨d1, rfl, w1⟩ := val_row how
 obtain ⟨d2, rfl, w2⟩ := val_row w1
 obtain ⟨d3, rfl, w3⟩ := val_row w2
 obtain ⟨d4, rfl, w4⟩ := val_row w3
 obtain ⟨d5, rfl, w5⟩ := val_row w4
 obtain ⟨d6, rfl, w6⟩ := val_row w5
 obtain ⟨a1, c1, d7, F1, rfl, w7⟩ := lst_nil w6
 obtain ⟨a2, c2, d8, F2, rfl, w8⟩ := lst_nil w7
 obtain ⟨pf, cf, d9, csf, Gf, Ff, rfl, hrf, hof, w9⟩ := lst_row w8
 obtain ⟨a4, c4, d10, F4, rfl, w10⟩ := lst_nil w9
 obtain ⟨a5, c5, d11, F5, rfl, w11⟩ := lst_nil w10
 obtain ⟨a6, c6, d12, F6, rfl, w12⟩ := lst_nil w11
 obtain ⟨a7, c7, d13, F7, rfl, w13⟩ := lst_nil w12
 obtain ⟨d14, rfl, w14⟩ := val_row w13
 obtain ⟨a8, c8, d15, F8, rfl, w15⟩ := lst_nil w14
 obtain ⟨d16, rfl, w16⟩ := val_row w15
 obtain ⟨d17, rfl, w17⟩ := val_row w16
 unfold fdD ntD at hof
 obtain ⟨f1, rfl, y1⟩ := val_row hof
 obtain ⟨f2, rfl, y2⟩ := val_row y1
 obtain ⟨f3, rfl, y3⟩ := val_row y2
 obtain ⟨f4, rfl, y4⟩ := val_row y3
 obtain ⟨b5, e5, f5, G5, rfl, y5⟩ := lst_nil y4
 obtain ⟨f6, rfl, y6⟩ := val_row y5
 have e0 := hr 0 _ rfl
 have e2 := hr 2 _ rfl
 have e4 := hr 4 _ rfl
 have e5' := hr 5 _ rfl
 have e8 := hr 8 _ rfl
 have e15 := hr 15 _ rfl
 have e16 := hr 16 _ rfl
 have g5 := hrf 5 _ rfl
 simp only [Nat.zero_add] at e0 e2 e4 e5' e8 e15 e16 g5
 exact ⟨p, pf, cf, rfl, rfl, World.block_lt_of_cell? w _ e0, World.block_lt_of_cell? w _ g5, e0, e2, e4, e5', e8, e15, e16, g5⟩
theorem row_newS (W : World) (zs : List Int) (t : TypeId) (fr : Nat × Nat) : Row .u8 (W.alloc (.cells (zs.map (Value.int .u8)).toArray t fr)) (some ⟨W.heap.size, 0, none⟩) zs.length zs.length zs := by
 refine ⟨rfl, Nat.le_refl _, (fun e => by cases e), .inr ⟨W.heap.size, 0, rfl, by simp, fun i hi => ?_⟩⟩
 have e : (W.alloc (.cells (zs.map (Value.int .u8)).toArray t fr)).cell? ⟨W.heap.size, 0 + i, none⟩ = (zs.map (Value.int .u8)).toArray[0 + i]? := World.cell?_alloc_mark _ _ _ _ _
 rw [e]
 simp [List.getD, hi]
theorem sparse1_ok (W : World) (N : Nat) (hN : N = W.heap.size) : Calls Tryz.prog 9 #[.slice (some ⟨N, 0, none⟩) 24 24, .int .i64 9] (W.alloc (.cells #[Value.int .u8 34, Value.int .u8 100, Value.int .u8 34, Value.int .u8 32, Value.int .u8 116, Value.int .u8 121, Value.int .u8 112, Value.int .u8 101, Value.int .u8 32, Value.int .u8 116, Value.int .u8 121, Value.int .u8 112, Value.int .u8 101, Value.int .u8 123, Value.int .u8 116, Value.int .u8 121, Value.int .u8 112, Value.int .u8 101, Value.int .u8 58, Value.int .u8 116, Value.int .u8 121, Value.int .u8 112, Value.int .u8 101, Value.int .u8 125] 5 (24, 25))) fun e w' => ∃ p pf cf c, e = .returned (.tuple #[.slice (some ⟨p, 0, none⟩) 1 c, .agg #[.int .i64 0, .slice none 0 0, .slice none 0 0]]) ∧ p < w'.heap.size ∧ pf < w'.heap.size ∧ w'.cell? ⟨p, 0, none⟩ = some (.int .i64 3) ∧ w'.cell? ⟨p, 2, none⟩ = some (.bool true) ∧ w'.cell? ⟨p, 4, none⟩ = some (.string ns) ∧ w'.cell? ⟨p, 5, none⟩ = some (.string bType) ∧ w'.cell? ⟨p, 8, none⟩ = some (.slice (some ⟨pf, 0, none⟩) 1 cf) ∧ w'.cell? ⟨p, 15, none⟩ = some (.int .i64 1) ∧ w'.cell? ⟨p, 16, none⟩ = some (.int .i64 10) ∧ w'.cell? ⟨pf, 5, none⟩ = some (.string bType) ∧ Below W.heap.size W w' := by
 subst hN
 have hb : Below W.heap.size W (W.alloc (.cells #[Value.int .u8 34, Value.int .u8 100, Value.int .u8 34, Value.int .u8 32, Value.int .u8 116, Value.int .u8 121, Value.int .u8 112, Value.int .u8 101, Value.int .u8 32, Value.int .u8 116, Value.int .u8 121, Value.int .u8 112, Value.int .u8 101, Value.int .u8 123, Value.int .u8 116, Value.int .u8 121, Value.int .u8 112, Value.int .u8 101, Value.int .u8 58, Value.int .u8 116, Value.int .u8 121, Value.int .u8 112, Value.int .u8 101, Value.int .u8 125] 5 (24, 25))) := ba
 refine (parse_ct (some ⟨W.heap.size, 0, none⟩) 24 24 (mem.bytesZ ssrc1) 9 _ (row_newS W (mem.bytesZ ssrc1) 5 (24, 25)) (by decide) (mem.bytesZ_byt _) (by rfl)).mono ?_
 rintro e w2 ⟨r, C, a', n', c', F, fs, hq, rfl, hsh, hfl, b2⟩
 have h1 : (sdocG (mem.bytesZ ssrc1) 9).1 = r := congrArg Prod.fst hq
 have h2 : (sdocG (mem.bytesZ ssrc1) 9).2 = C := congrArg Prod.snd hq
 rw [sdoc1] at h1
 subst h1
 have hk := sdoc1k
 rw [h2] at hk
 unfold FltAt at hfl
 rw [if_pos hk] at hfl
 subst hfl
 obtain ⟨p, pf, cf, rfl, rfl, l1, l2, q0, q2, q4, q5, q8, q15, q16, g5⟩ := sy1_cells hsh
 exact ⟨p, pf, cf, c', rfl, l1, l2, q0, q2, q4, q5, q8, q15, q16, g5, hb.trans (b2.mono hb.size)⟩
theorem sparse2_ok (W : World) (N : Nat) (hN : N = W.heap.size) : Calls Tryz.prog 9 #[.slice (some ⟨N, 0, none⟩) 20 20, .int .i64 9] (W.alloc (.cells #[Value.int .u8 101, Value.int .u8 120, Value.int .u8 116, Value.int .u8 101, Value.int .u8 110, Value.int .u8 100, Value.int .u8 32, Value.int .u8 116, Value.int .u8 121, Value.int .u8 112, Value.int .u8 101, Value.int .u8 32, Value.int .u8 84, Value.int .u8 32, Value.int .u8 116, Value.int .u8 121, Value.int .u8 112, Value.int .u8 101, Value.int .u8 32, Value.int .u8 85] 5 (20, 21))) fun e w' => ∃ b a c, e = .returned (.tuple #[.slice a 0 c, .agg #[.int .i64 70, .slice (some ⟨b, 0, none⟩) 1 1, .slice none 0 0]]) ∧ W.heap.size ≤ b ∧ b < w'.heap.size ∧ w'.cell? ⟨b, 0, none⟩ = some (.int .i64 1) ∧ w'.cell? ⟨b, 1, none⟩ = some (.int .i64 15) ∧ Below W.heap.size W w' := by
 subst hN
 have hb : Below W.heap.size W (W.alloc (.cells #[Value.int .u8 101, Value.int .u8 120, Value.int .u8 116, Value.int .u8 101, Value.int .u8 110, Value.int .u8 100, Value.int .u8 32, Value.int .u8 116, Value.int .u8 121, Value.int .u8 112, Value.int .u8 101, Value.int .u8 32, Value.int .u8 84, Value.int .u8 32, Value.int .u8 116, Value.int .u8 121, Value.int .u8 112, Value.int .u8 101, Value.int .u8 32, Value.int .u8 85] 5 (20, 21))) := ba
 refine (parse_ct (some ⟨W.heap.size, 0, none⟩) 20 20 (mem.bytesZ ssrc2) 9 _ (row_newS W (mem.bytesZ ssrc2) 5 (20, 21)) (by decide) (mem.bytesZ_byt _) (by rfl)).mono ?_
 rintro e w2 ⟨r, C, a', n', c', F, fs, hq, rfl, hsh, hfl, b2⟩
 have h1 : (sdocG (mem.bytesZ ssrc2) 9).1 = r := congrArg Prod.fst hq
 have h2 : (sdocG (mem.bytesZ ssrc2) 9).2 = C := congrArg Prod.snd hq
 rw [sdoc2] at h1
 subst h1
 obtain ⟨e1, e2, e3⟩ := sdoc2k
 rw [h2] at e1 e2 e3
 unfold FltAt at hfl
 rw [if_neg (by rw [e1]; decide), e1, e2, e3] at hfl
 obtain ⟨b, h3, h4, rfl, h5, h6⟩ := hfl
 have hl := hsh.len
 simp at hl
 subst hl
 exact ⟨b, a', c', rfl, Nat.le_trans hb.size h3, h4, h5, h6, hb.trans (b2.mono hb.size)⟩
set_option maxHeartbeats 4000000 in
set_option maxRecDepth 10000 in
theorem awake10_ok (w : World) : Calls Tryz.prog 8 #[] w fun e w' => e = .returned (.bool true) ∧ Below w.heap.size w w' := by
 have kc := fun (w : World) (C : Array Value) (n c : Nat) => Lib.run_convert_bytes_const (P := Tryz.prog) w 22 5 C n c Tryz.underlying22 Tryz.underlying5
 go_enter Tryz.func8, Tryz.ntmps8
 go_wp2_with fail
 refine (sparse1_ok w w.heap.size rfl).mono ?_
 rintro e w2 ⟨p, pf, cf, c, rfl, l1, l2, q0, q2, q4, q5, q8, q15, q16, g5, bw2⟩
 obtain ⟨X, hX⟩ : ∃ X, X = w2.alloc (.cells #[.int .i64 0, .slice none 0 0, .slice none 0 0] 29) := ⟨_, rfl⟩
 have bX : Below w2.heap.size w2 X := by rw [hX]; exact ba
 have hat : X.heap[w2.heap.size]? = some (.cells #[.int .i64 0, .slice none 0 0, .slice none 0 0] 29 (0, 0)) := by rw [hX]; exact heap_alloc_new _ _
 have zX : w2.heap.size + 1 = X.heap.size := by rw [hX]; simp
 have bw2s := bw2.size
 have BW := bw2.trans (bX.mono bw2.size)
 have T := fun o (b i : Nat) (v : Value) (hb : b < w2.heap.size) (h : w2.cell? ⟨b, i, none⟩ = some v) => (((Below.refl w2.heap.size w2).alloc (Nat.le_refl _) o).cell (p := ⟨b, i, none⟩) hb).trans h
 have r0 := fun o => T o _ _ _ l1 q0
 have r2 := fun o => T o _ _ _ l1 q2
 have r4 := fun o => T o _ _ _ l1 q4
 have r5 := fun o => T o _ _ _ l1 q5
 have r8 := fun o => T o _ _ _ l1 q8
 have r15 := fun o => T o _ _ _ l1 q15
 have r16 := fun o => T o _ _ _ l1 q16
 have rg := fun o => T o _ _ _ l2 g5
 unfold ns at r4
 unfold bType at r5 rg
 have HX := Hi (And.intro hX (And.intro bX (And.intro hat (And.intro zX BW))))
 have kc1 := fun (o : Obj) (C : Array Value) (n c : Nat) => by simpa using kc (w2.alloc o) C n c
 clear T q0 q2 q4 q5 q8 q15 q16 g5 bw2 hX bX hat zX BW
 go_wp2_with fail
 obtain ⟨hX, bX, hat, zX, BW⟩ := uh HX
 rw [← hX]
 refine (sparse2_ok X _ zX).mono ?_
 rintro e w4 ⟨b, a5, c5, rfl, lb0, lb, c0, c1, b4⟩
 have hF := (b4.block w2.heap.size (by omega)).trans hat
 have HT2 := Hi (show w4.there w2.heap.size 0 3 from dt.there_cells hF (by decide))
 obtain ⟨W7, e7⟩ : ∃ W7, W7 = w4.setCells w2.heap.size 0 (#[.int .i64 70, .slice (some ⟨b, 0, none⟩) 1 1, .slice none 0 0] : Array Value).toList := ⟨_, rfl⟩
 have hF7 : W7.heap[w2.heap.size]? = some (.cells #[.int .i64 70, .slice (some ⟨b, 0, none⟩) 1 1, .slice none 0 0] 29 (0, 0)) := by rw [e7]; exact (dt.setCells_at [.int .i64 70, .slice (some ⟨b, 0, none⟩) 1 1, .slice none 0 0] 0 w4 _ hF).trans (by kernel_rfl)
 have hb7 : W7.heap[b]? = w4.heap[b]? := by rw [e7]; exact dt.heap_setCells w2.heap.size b (by omega) _ 0 w4
 have C0 := (dt.cell_blk hb7 0).trans c0
 have C1 := (dt.cell_blk hb7 1).trans c1
 have BW7 : Below w.heap.size w W7 := by
  rw [e7]
  have h0 := BW.trans (b4.mono BW.size)
  exact dt.below_setCells _ _ _ _ h0 (by omega)
 have f0 : W7.cell? ⟨w2.heap.size, 0, none⟩ = some (.int .i64 70) := (dt.cell_cells hF7 0).trans rfl
 have f1 : W7.cell? ⟨w2.heap.size, 1, none⟩ = some (.slice (some ⟨b, 0, none⟩) 1 1) := (dt.cell_cells hF7 1).trans rfl
 have E7 := Hi e7
 have HB := Hi BW7
 clear hF hF7 hb7 BW7 e7 c0 c1 b4 hat bX BW HX hX zX kc kc1 r0 r2 r4 r5 r8 r15 r16 rg lb lb0 bw2s
 go_wp2_with (first
  | (refine wpList_store_mid (by rfl) 29 _ _ (by rfl) w2.heap.size 0 #[.int .i64 70, .slice (some ⟨b, 0, none⟩) 1 1, .slice none 0 0] (by rfl) (by rfl) (uh HT2) infoFl (dt.one_cells (cs := [.int .i64 70, .slice (some ⟨b, 0, none⟩) 1 1, .slice none 0 0]) (by rfl)) ?_; rw [← uh E7]))
 go_ret
 exact ⟨rfl, uh HB⟩
open dt (Dt Kp RowAt Ow Grow)
def NmT (t : Tk) (x : Nm) : Prop := t.k = 3 ∧ t.tx = x.1 ∧ t.ln = x.2.1 ∧ t.co = x.2.2
def Chn (ts : List Tk) : Nat → List Nm → Nat → Prop
 | i, [], j => i ≤ j
 | i, x :: l, j => ∃ k t, i ≤ k ∧ ts[k]? = some t ∧ NmT t x ∧ Chn ts k l j
theorem Chn.le {ts : List Tk} : ∀ {l : List Nm} {i j : Nat}, Chn ts i l j → i ≤ j
 | [], i, j, h => h
 | x :: l, i, j, h => by
  obtain ⟨k, t, h1, h2, h3, h4⟩ := h
  exact Nat.le_trans h1 (Chn.le h4)
theorem Chn.mono {ts : List Tk} {l : List Nm} {i i' j : Nat} (h : Chn ts i l j) (hi : i' ≤ i) : Chn ts i' l j := by
 cases l with
 | nil => exact Nat.le_trans hi h
 | cons x l =>
  obtain ⟨k, t, h1, h2, h3, h4⟩ := h
  exact ⟨k, t, Nat.le_trans hi h1, h2, h3, h4⟩
theorem Chn.app {ts : List Tk} : ∀ {l l' : List Nm} {i j k : Nat}, Chn ts i l j → Chn ts j l' k → Chn ts i (l ++ l') k
 | [], l', i, j, k, h, h' => h'.mono h
 | x :: l, l', i, j, k, h, h' => by
  obtain ⟨q, t, h1, h2, h3, h4⟩ := h
  exact ⟨q, t, h1, h2, h3, Chn.app h4 h'⟩
theorem Chn.split {ts : List Tk} : ∀ {l l' : List Nm} {i k : Nat}, Chn ts i (l ++ l') k → ∃ j, Chn ts i l j ∧ Chn ts j l' k
 | [], l', i, k, h => ⟨i, Nat.le_refl _, h⟩
 | x :: l, l', i, k, h => by
  obtain ⟨q, t, h1, h2, h3, h4⟩ := h
  obtain ⟨j, h5, h6⟩ := Chn.split (l := l) h4
  exact ⟨j, ⟨q, t, h1, h2, h3, h5⟩, h6⟩
def Tp {A : Type} (p : List Nm) (E : Cu → A × Cu) (V : A → List Nm → Prop) : Prop := ∀ c, c.Ok → (E c).2.kd = 0 → ∃ l, V (E c).1 (p ++ l) ∧ Chn c.ts c.ix l (E c).2.ix
theorem Tp.bnd {A X : Type} {p : List Nm} {E : Cu → A × Cu} {F : A → Cu → X × Cu} {U : A → List Nm → Prop} {V : X → List Nm → Prop} (s : St E) (dm : ∀ a, Dm (F a)) (h : Tp [] E U) (k : ∀ a l, U a l → Tp (p ++ l) (F a) V) : Tp p (bnd E F) V := fun c hc hk => by
 have hk' : (F (E c).1 (E c).2).2.kd = 0 := hk
 have h0 := (dm _).alive hk'
 obtain ⟨l, h1, h2⟩ := h c hc h0
 obtain ⟨l', h3, h4⟩ := k (E c).1 l h1 (E c).2 (s c hc).ok hk'
 rw [(s c hc).ts] at h4
 exact ⟨l ++ l', by rw [← List.append_assoc]; exact h3, h2.app h4⟩
theorem Tp.b0 {A X : Type} {p : List Nm} {E : Cu → A × Cu} {F : A → Cu → X × Cu} {V : X → List Nm → Prop} (s : St E) (dm : ∀ a, Dm (F a)) (k : ∀ a, Tp p (F a) V) : Tp p (cu.bnd E F) V :=
 Tp.bnd (U := fun _ l => l = []) s dm (fun c hc hk => ⟨[], rfl, (s c hc).ix⟩) fun a l hl => by rw [hl, List.append_nil]; exact k a
theorem ret_t {A : Type} {p : List Nm} {V : A → List Nm → Prop} {a : A} (h : V a p) : Tp p (ret a) V := fun c hc hk => ⟨[], by rw [List.append_nil]; exact h, Nat.le_refl _⟩
theorem cond_t {A : Type} {p : List Nm} {V : A → List Nm → Prop} {q : Bool} {E F : Cu → A × Cu} (h : q = true → Tp p E V) (k : q = false → Tp p F V) : Tp p (cond q E F) V := by
 cases q
 ·exact k rfl
 ·exact h rfl
theorem stopR_t {A : Type} {p : List Nm} {V : A → List Nm → Prop} (a : A) : Tp p (stopR a) V := fun c hc hk => absurd hk (stop_kd _ _ (by decide))
def One (m : Nm) (l : List Nm) : Prop := l = [m]
theorem one_at {c : Cu} (hc : c.Ok) (hn : c.isN = true) {j : Nat} (hj : c.ix ≤ j) : Chn c.ts c.ix [(c.tok.tx, c.tok.ln, c.tok.co)] j := ⟨c.ix, c.tok, Nat.le_refl _, c.get hc.lt, ⟨(isN_k hn).2, rfl, rfl, rfl⟩, hj⟩
theorem namR_t : Tp [] namR One := fun c hc hk => by
 have hn : c.isN = true := by
  cases hn : c.isN with
  | true => rfl
  | false => exact absurd hk (name_dead' hn)
 refine ⟨[(c.tok.tx, c.tok.ln, c.tok.co)], ?_, one_at hc hn (name_stp hc).ix⟩
 show [(c.tok.tx, c.tok.ln, c.tok.co)] = [nm3 c.tok c.isN]
 rw [hn]
 rfl
theorem nmC_t {c : Cu} {so : Bool} (h : (c.nmC so).kd = 0) : so = true := by
 cases so with
 | true => rfl
 | false => exact absurd h (stop_kd _ _ (by decide))
theorem butN_t (ws : List ByteArray) : Tp [] (butN ws) One := fun c hc hk => by
 have h0 := nmC_t (c := c) hk
 have hn : c.isN = true := by simp at h0; exact h0.1
 refine ⟨[(c.tok.tx, c.tok.ln, c.tok.co)], ?_, one_at hc hn (butN_st ws c hc).ix⟩
 show [(c.tok.tx, c.tok.ln, c.tok.co)] = [nm3 c.tok (c.isN && !inW ws c.tok.tx)]
 rw [h0]
 rfl
theorem wwN_t (ws : List ByteArray) : Tp [] (wwN ws) One := fun c hc hk => by
 have h0 := nmC_t (c := c) hk
 refine ⟨[(c.tok.tx, c.tok.ln, c.tok.co)], ?_, one_at hc (isW_N h0) (wwN_st ws c hc).ix⟩
 show [(c.tok.tx, c.tok.ln, c.tok.co)] = [nm3 c.tok (c.isW ws)]
 rw [h0]
 rfl
inductive Cat (V : Dt → List Nm → Prop) : List Dt → List Nm → Prop
 | nil : Cat V [] []
 | cons {d l xs ys} : V d xs → Cat V l ys → Cat V (d :: l) (xs ++ ys)
theorem Cat.snoc {V : Dt → List Nm → Prop} {l : List Dt} {xs : List Nm} (h : Cat V l xs) {d : Dt} {ys : List Nm} (hd : V d ys) : Cat V (l ++ [d]) (xs ++ ys) := by
 induction h with
 | nil => simpa using Cat.cons hd Cat.nil
 | cons h1 h2 ih => rw [List.append_assoc]; exact Cat.cons h1 ih
theorem optR_t {E : Cu → Dt × Cu} {V : Dt → List Nm → Prop} (h : Tp [] E V) {c : Cu} (hc : c.Ok) {d : Dt} (hd : (optR E c).1 = some d) : ∃ l, V d l ∧ Chn c.ts c.ix l (optR E c).2.ix := by
 have hk := optR_alive (E := E) (c := c) (by rw [hd]; rfl)
 have hk' : (E c).2.kd = 0 := hk
 rw [optR_some hk'] at hd
 obtain rfl := Option.some.inj hd
 obtain ⟨l, h1, h2⟩ := h c hc hk'
 exact ⟨l, h1, h2⟩
theorem brkF_t {E : Cu → Dt × Cu} {V : Dt → List Nm → Prop} (hG : Goes (optR E)) (h : Tp [] E V) (r : ByteArray) (n : Nat) : ∀ (g : Nat) (l : List Dt) (p : List Nm) (c : Cu), c.Ok → Cat V l p → ∀ x, (brkF (optR E) r n g l c).1 = some x → ∃ q, Cat V x (p ++ q) ∧ Chn c.ts c.ix q (brkF (optR E) r n g l c).2.ix
 | 0, l, p, c, hc, hl, x, hx => by cases hx
 | g + 1, l, p, c, hc, hl, x, hx => by
  simp only [brkF] at hx ⊢
  by_cases hq : l.length < n ∨ c.isP r = false
  ·rw [if_pos hq] at hx ⊢
   cases he : (optR E c).1 with
   | none => rw [he] at hx; cases hx
   | some d =>
    rw [he] at hx
    obtain ⟨y, h1, h2⟩ := optR_t h hc he
    have s := (hG c hc).1
    obtain ⟨q, h3, h4⟩ := brkF_t hG h r n g (l ++ [d]) (p ++ y) _ s.ok (hl.snoc h1) x hx
    rw [s.ts] at h4
    exact ⟨y ++ q, by rw [← List.append_assoc]; exact h3, h2.app h4⟩
  ·rw [if_neg hq] at hx ⊢
   obtain rfl := Option.some.inj hx
   exact ⟨[], by rw [List.append_nil]; exact hl, (cls_stp hc r).ix⟩
theorem brkT_t {E : Cu → Dt × Cu} {V : Dt → List Nm → Prop} (hG : Goes (optR E)) (h : Tp [] E V) (l r : ByteArray) : Tp [] (brkT E l r) (Cat V) := fun c hc hk => by
 have hk' : (brk (optR E) l r 1 c).2.kd = 0 := hk
 have ho := opn_stp hc l
 show ∃ q, Cat V ((brk (optR E) l r 1 c).1.getD []) ([] ++ q) ∧ Chn c.ts c.ix q (brk (optR E) l r 1 c).2.ix
 cases hx : (brk (optR E) l r 1 c).1 with
 | none => exact ⟨[], Cat.nil, (brk_goes hG l r 1 c hc).1.ix⟩
 | some x =>
  unfold brk at hx ⊢
  by_cases hB : c.opB l = true
  ·rw [if_pos hB] at hx ⊢
   obtain ⟨q, h1, h2⟩ := brkF_t hG h r 1 _ [] [] _ ho.ok Cat.nil x hx
   rw [ho.ts] at h2
   exact ⟨q, h1, h2.mono ho.ix⟩
  ·rw [if_neg hB] at hx; cases hx
theorem optT_t {E : Cu → Dt × Cu} {V : Dt → List Nm → Prop} (hG : Goes (optR E)) (h : Tp [] E V) (l r : ByteArray) : Tp [] (optT E l r) (Cat V) :=
 Tp.b0 (isPR_st l) (fun q => cond_m (brkT_m E l r) (ret_m _)) fun q => cond_t (fun _ => brkT_t hG h l r) (fun _ => ret_t Cat.nil)
def Nms (l : List Dt) (xs : List Nm) : Prop := l = xs.map namD
theorem parF_t {E : Cu → Nm × Cu} (s : St E) (dm : Dm E) (h : Tp [] E One) (k : ByteArray) : ∀ (g : Nat) (l : List Dt) (p : List Nm), Nms l p → Tp p (parF E k g l) Nms
 | 0, l, p, hl => ret_t hl
 | g + 1, l, p, hl => Tp.b0 (punctR_st k) (fun q => cond_m (dm.bnd fun d => parF_m dm k g _) (ret_m _)) fun q => cond_t (fun _ => Tp.bnd s (fun d => parF_m dm k g _) h fun d xs hx => parF_t s dm h k g _ _ (by unfold Nms One at *; rw [hl, hx]; simp)) (fun _ => ret_t hl)
theorem parT_t {E : Cu → Nm × Cu} (s : St E) (dm : Dm E) (h : Tp [] E One) (N : Nat) (k : ByteArray) : Tp [] (parT N E k) Nms :=
 Tp.b0 (punctR_st k) (fun _ => dm.bnd fun d => parF_m dm k N _) fun _ => Tp.bnd s (fun d => parF_m dm k N _) h fun d xs hx => parF_t s dm h k N _ _ (by unfold Nms One at *; rw [hx]; rfl)
def IsL (v : Dt) : Prop := ∃ k tx bl its fls ln co, v = litD k tx bl its fls ln co
theorem word_l (t : Tk) : IsL (wordD t) := by
 unfold wordD
 split
 ·exact ⟨_, _, _, _, _, _, _, rfl⟩
 ·split <;> exact ⟨_, _, _, _, _, _, _, rfl⟩
theorem litF_l {N : Nat} {c : Cu} {v : Dt} (h : (litF true N c).1 = some v) : IsL v := by
 cases N with
 | zero => cases h
 | succ f =>
  change (litS (litF true f) true c).1 = some v at h
  unfold litS at h
  split at h
  ·cases h
  split at h
  ·obtain rfl := Option.some.inj h; exact ⟨_, _, _, _, _, _, _, rfl⟩
  split at h
  ·obtain rfl := Option.some.inj h; exact ⟨_, _, _, _, _, _, _, rfl⟩
  split at h
  ·obtain rfl := Option.some.inj h; exact ⟨_, _, _, _, _, _, _, rfl⟩
  split at h
  ·obtain rfl := Option.some.inj h; exact word_l _
  split at h
  ·rename_i hx; exact absurd hx.2 (by decide)
  split at h
  ·unfold listS at h
   cases hq : (brk (litF true f) bLb bRb 0 c).1 with
   | none => rw [hq] at h; cases h
   | some l => rw [hq] at h; obtain rfl := Option.some.inj h; exact ⟨_, _, _, _, _, _, _, rfl⟩
  split at h
  ·unfold objS at h
   cases hq : (brk (argS (litF true f)) bLc bRc 0 c).1 with
   | none => rw [hq] at h; cases h
   | some l => rw [hq] at h; obtain rfl := Option.some.inj h; exact ⟨_, _, _, _, _, _, _, rfl⟩
  ·cases h
theorem opt_l {q : Bool} {N : Nat} : Tp [] (cond q (litF true N) (ret none)) (fun v l => l = [] ∧ IsL (v.getD zeroD)) := fun c hc hk => by
 refine ⟨[], ⟨rfl, ?_⟩, ((ite_st (b := q) (litF_goes true N).st (ret_st none)) c hc).ix⟩
 cases q with
 | false => exact ⟨_, _, _, _, _, _, _, rfl⟩
 | true =>
  show IsL ((litF true N c).1.getD zeroD)
  cases hv : (litF true N c).1 with
  | none => exact ⟨_, _, _, _, _, _, _, rfl⟩
  | some v => exact litF_l hv
def IsI (d : Dt) (l : List Nm) : Prop := ∃ n m tn tw hd v ds, d = inpD n m tn tw hd v ds ∧ l = [m] ∧ IsL v
def IsC (d : Dt) (l : List Nm) : Prop := ∃ n m ds, d = choD n m ds ∧ l = [m]
def IsF (d : Dt) (l : List Nm) : Prop := ∃ n m al xs tn tw ds, d = fdD n m al tn tw ds ∧ l = m :: xs ∧ Cat IsI al xs
section
variable (N : Nat)
theorem inp_t : Tp [] (inpT (typF N) (litF true N)) IsI :=
 Tp.b0 noteR_st (fun _ => namR_m.bnd fun _ => (wantR_m _).bnd fun _ => (typF_m N).bnd fun _ => (punctR_m _).bnd fun q => (cond_m (litF_m N) (ret_m _)).bnd fun _ => (dirs_m _).bnd fun _ => ret_m _) fun n =>
 Tp.bnd namR_st (fun _ => (wantR_m _).bnd fun _ => (typF_m N).bnd fun _ => (punctR_m _).bnd fun q => (cond_m (litF_m N) (ret_m _)).bnd fun _ => (dirs_m _).bnd fun _ => ret_m _) namR_t fun m l hl =>
 Tp.b0 (wantR_st _) (fun _ => (typF_m N).bnd fun _ => (punctR_m _).bnd fun q => (cond_m (litF_m N) (ret_m _)).bnd fun _ => (dirs_m _).bnd fun _ => ret_m _) fun _ =>
 Tp.b0 (typF_st N) (fun _ => (punctR_m _).bnd fun q => (cond_m (litF_m N) (ret_m _)).bnd fun _ => (dirs_m _).bnd fun _ => ret_m _) fun ty =>
 Tp.b0 (punctR_st _) (fun q => (cond_m (litF_m N) (ret_m _)).bnd fun _ => (dirs_m _).bnd fun _ => ret_m _) fun q =>
 Tp.bnd (ite_st (litF_goes true N).st (ret_st _)) (fun _ => (dirs_m _).bnd fun _ => ret_m _) opt_l fun v xs hv =>
 Tp.b0 (dirs_st (litF_goes true N)) (fun _ => ret_m _) fun d => ret_t ⟨n, m, _, _, _, _, _, rfl, (by rw [hv.1]; simpa [One] using hl), hv.2⟩
theorem fd_t : Tp [] (fdT (typF N) (litF true N)) IsF :=
 Tp.b0 noteR_st (fun _ => namR_m.bnd fun _ => (optT_m _ _ _).bnd fun _ => (wantR_m _).bnd fun _ => (typF_m N).bnd fun _ => (dirs_m _).bnd fun _ => ret_m _) fun n =>
 Tp.bnd namR_st (fun _ => (optT_m _ _ _).bnd fun _ => (wantR_m _).bnd fun _ => (typF_m N).bnd fun _ => (dirs_m _).bnd fun _ => ret_m _) namR_t fun m l hl =>
 Tp.bnd (optT_st (inp_go N) _ _) (fun _ => (wantR_m _).bnd fun _ => (typF_m N).bnd fun _ => (dirs_m _).bnd fun _ => ret_m _) (optT_t (inp_go N) (inp_t N) _ _) fun al xs ha =>
 Tp.b0 (wantR_st _) (fun _ => (typF_m N).bnd fun _ => (dirs_m _).bnd fun _ => ret_m _) fun _ =>
 Tp.b0 (typF_st N) (fun _ => (dirs_m _).bnd fun _ => ret_m _) fun ty =>
 Tp.b0 (dirs_st (litF_goes true N)) (fun _ => ret_m _) fun d => ret_t ⟨n, m, al, xs, _, _, _, rfl, (by unfold One at hl; rw [hl]; rfl), ha⟩
theorem cho_t : Tp [] (choT (litF true N)) IsC :=
 Tp.b0 noteR_st (fun _ => (butN_m _).bnd fun _ => (dirs_m _).bnd fun _ => ret_m _) fun n =>
 Tp.bnd (butN_st _) (fun _ => (dirs_m _).bnd fun _ => ret_m _) (butN_t _) fun m l hl =>
 Tp.b0 (dirs_st (litF_goes true N)) (fun _ => ret_m _) fun d => ret_t ⟨n, m, _, rfl, hl⟩
def Sy.own (s : Sy) : Nm := (if s.k = 1 then bSchema else s.nm, s.ln, s.co)
def IsY (s : Sy) (l : List Nm) : Prop := ∃ xi xm xv xn xp xf, Nms s.ifs xi ∧ Nms s.ms xm ∧ Cat IsC s.vs xv ∧ Cat IsI s.ins xn ∧ Nms s.ps xp ∧ Cat IsF s.fs xf ∧ l = s.own :: (xi ++ (xm ++ (xv ++ (xn ++ (xp ++ xf)))))
structure Emp (s : Sy) : Prop where
 ifs : s.ifs = []
 ms : s.ms = []
 vs : s.vs = []
 ins : s.ins = []
 ps : s.ps = []
 fs : s.fs = []
theorem nmd_t {s : Sy} (he : Emp s) (hk : s.k ≠ 1) : Tp [] (nmdT s) (fun s' l => l = [s'.own] ∧ Emp s' ∧ s'.k ≠ 1) :=
 Tp.bnd namR_st (fun _ => ret_m _) namR_t fun m l hl => ret_t ⟨by unfold One at hl; rw [hl]; show [m] = [(if s.k = 1 then bSchema else m.1, m.2.1, m.2.2)]; rw [if_neg hk], ⟨he.ifs, he.ms, he.vs, he.ins, he.ps, he.fs⟩, hk⟩
theorem nil_n : Nms [] [] := rfl
theorem Emp.n {l : List Dt} (h : l = []) : Nms l [] := h
theorem Emp.c {V : Dt → List Nm → Prop} {l : List Dt} (h : l = []) : Cat V l [] := by rw [h]; exact Cat.nil
theorem sca_t {s : Sy} (he : Emp s) (hk : s.k ≠ 1) : Tp [] (scaT (litF true N) s) IsY :=
 Tp.bnd (nmd_st s) (fun _ => (dirs_m _).bnd fun _ => ret_m _) (nmd_t he hk) fun s' l hl => Tp.b0 (dirs_st (litF_goes true N)) (fun _ => ret_m _) fun d => ret_t ⟨[], [], [], [], [], [], Emp.n hl.2.1.ifs, Emp.n hl.2.1.ms, Emp.c hl.2.1.vs, Emp.c hl.2.1.ins, Emp.n hl.2.1.ps, Emp.c hl.2.1.fs, by rw [hl.1]; rfl⟩
theorem obj_t {s : Sy} (he : Emp s) (hk : s.k ≠ 1) : Tp [] (objT (typF N) (litF true N) N s) IsY :=
 Tp.bnd (nmd_st s) (fun _ => (wordR_m _).bnd fun _ => (cond_m (parT_m namR_m _ _) (ret_m _)).bnd fun _ => (dirs_m _).bnd fun _ => (optT_m _ _ _).bnd fun _ => ret_m _) (nmd_t he hk) fun s' l hl =>
 Tp.b0 (wordR_st _) (fun _ => (cond_m (parT_m namR_m _ _) (ret_m _)).bnd fun _ => (dirs_m _).bnd fun _ => (optT_m _ _ _).bnd fun _ => ret_m _) fun q =>
 Tp.bnd (ite_st (parT_st namR_st N _) (ret_st _)) (fun _ => (dirs_m _).bnd fun _ => (optT_m _ _ _).bnd fun _ => ret_m _) (cond_t (fun _ => parT_t namR_st namR_m namR_t N _) (fun _ => ret_t nil_n)) fun i xi hi =>
 Tp.b0 (dirs_st (litF_goes true N)) (fun _ => (optT_m _ _ _).bnd fun _ => ret_m _) fun d =>
 Tp.bnd (optT_st (fd_go N) _ _) (fun _ => ret_m _) (optT_t (fd_go N) (fd_t N) _ _) fun f xf hf => ret_t ⟨xi, [], [], [], [], xf, hi, Emp.n hl.2.1.ms, Emp.c hl.2.1.vs, Emp.c hl.2.1.ins, Emp.n hl.2.1.ps, hf, by rw [hl.1]; simp; rfl⟩
theorem uni_t {s : Sy} (he : Emp s) (hk : s.k ≠ 1) : Tp [] (uniT (litF true N) N s) IsY :=
 Tp.bnd (nmd_st s) (fun _ => (dirs_m _).bnd fun _ => (punctR_m _).bnd fun _ => (cond_m (parT_m namR_m _ _) (ret_m _)).bnd fun _ => ret_m _) (nmd_t he hk) fun s' l hl =>
 Tp.b0 (dirs_st (litF_goes true N)) (fun _ => (punctR_m _).bnd fun _ => (cond_m (parT_m namR_m _ _) (ret_m _)).bnd fun _ => ret_m _) fun d =>
 Tp.b0 (punctR_st _) (fun _ => (cond_m (parT_m namR_m _ _) (ret_m _)).bnd fun _ => ret_m _) fun q =>
 Tp.bnd (ite_st (parT_st namR_st N _) (ret_st _)) (fun _ => ret_m _) (cond_t (fun _ => parT_t namR_st namR_m namR_t N _) (fun _ => ret_t nil_n)) fun i xi hi => ret_t ⟨[], xi, [], [], [], [], Emp.n hl.2.1.ifs, hi, Emp.c hl.2.1.vs, Emp.c hl.2.1.ins, Emp.n hl.2.1.ps, Emp.c hl.2.1.fs, by rw [hl.1]; simp; rfl⟩
theorem enu_t {s : Sy} (he : Emp s) (hk : s.k ≠ 1) : Tp [] (enuT (litF true N) s) IsY :=
 Tp.bnd (nmd_st s) (fun _ => (dirs_m _).bnd fun _ => (optT_m _ _ _).bnd fun _ => ret_m _) (nmd_t he hk) fun s' l hl =>
 Tp.b0 (dirs_st (litF_goes true N)) (fun _ => (optT_m _ _ _).bnd fun _ => ret_m _) fun d =>
 Tp.bnd (optT_st (cho_go N) _ _) (fun _ => ret_m _) (optT_t (cho_go N) (cho_t N) _ _) fun f xf hf => ret_t ⟨[], [], xf, [], [], [], Emp.n hl.2.1.ifs, Emp.n hl.2.1.ms, hf, Emp.c hl.2.1.ins, Emp.n hl.2.1.ps, Emp.c hl.2.1.fs, by rw [hl.1]; simp; rfl⟩
theorem inu_t {s : Sy} (he : Emp s) (hk : s.k ≠ 1) : Tp [] (inuT (typF N) (litF true N) s) IsY :=
 Tp.bnd (nmd_st s) (fun _ => (dirs_m _).bnd fun _ => (optT_m _ _ _).bnd fun _ => ret_m _) (nmd_t he hk) fun s' l hl =>
 Tp.b0 (dirs_st (litF_goes true N)) (fun _ => (optT_m _ _ _).bnd fun _ => ret_m _) fun d =>
 Tp.bnd (optT_st (inp_go N) _ _) (fun _ => ret_m _) (optT_t (inp_go N) (inp_t N) _ _) fun f xf hf => ret_t ⟨[], [], [], xf, [], [], Emp.n hl.2.1.ifs, Emp.n hl.2.1.ms, Emp.c hl.2.1.vs, hf, Emp.n hl.2.1.ps, Emp.c hl.2.1.fs, by rw [hl.1]; simp; rfl⟩
theorem dird_t {s : Sy} (he : Emp s) (hk : s.k ≠ 1) : Tp [] (dirT (typF N) (litF true N) N s) IsY :=
 Tp.b0 (wantR_st _) (fun _ => (namR_m.bnd fun _ => ret_m _).bnd fun _ => (optT_m _ _ _).bnd fun _ => (wordR_m _).bnd fun _ => (wwR_m _).bnd fun _ => (parT_m (wwN_m _) _ _).bnd fun _ => ret_m _) fun _ =>
 Tp.bnd (nmd_st s) (fun _ => (optT_m _ _ _).bnd fun _ => (wordR_m _).bnd fun _ => (wwR_m _).bnd fun _ => (parT_m (wwN_m _) _ _).bnd fun _ => ret_m _) (nmd_t he hk) fun s' l hl =>
 Tp.bnd (optT_st (inp_go N) _ _) (fun _ => (wordR_m _).bnd fun _ => (wwR_m _).bnd fun _ => (parT_m (wwN_m _) _ _).bnd fun _ => ret_m _) (optT_t (inp_go N) (inp_t N) _ _) fun f xf hf =>
 Tp.b0 (wordR_st _) (fun _ => (wwR_m _).bnd fun _ => (parT_m (wwN_m _) _ _).bnd fun _ => ret_m _) fun r =>
 Tp.b0 (wwR_st _) (fun _ => (parT_m (wwN_m _) _ _).bnd fun _ => ret_m _) fun _ =>
 Tp.bnd (parT_st (wwN_st _) N _) (fun _ => ret_m _) (parT_t (wwN_st _) (wwN_m _) (wwN_t _) N _) fun p xp hp => ret_t ⟨[], [], [], xf, xp, [], Emp.n hl.2.1.ifs, Emp.n hl.2.1.ms, Emp.c hl.2.1.vs, hf, hp, Emp.c hl.2.1.fs, by rw [hl.1]; simp; rfl⟩
theorem kw_t {q : ByteArray} {E F : Cu → Sy × Cu} {V : Sy → List Nm → Prop} (h : Tp [] E V) (k : Tp [] F V) (hE : Dm E) (hF : Dm F) : Tp [] (kwT q E F) V := Tp.b0 (wordR_st q) (fun _ => cond_m hE hF) fun b => cond_t (fun _ => h) (fun _ => k)
theorem kwT_m {q : ByteArray} {E F : Cu → Sy × Cu} (hE : Dm E) (hF : Dm F) : Dm (kwT q E F) := (wordR_m q).bnd fun _ => cond_m hE hF
theorem sch_t {s : Sy} (he : Emp s) : Tp [] (schT (litF true N) s) (fun s' l => l = [] ∧ Emp s' ∧ s'.k = s.k ∧ s'.ln = s.ln ∧ s'.co = s.co) :=
 Tp.b0 (dirs_st (litF_goes true N)) (fun _ => (isPR_m _).bnd fun _ => (cond_m (brkT_m _ _ _) (ret_m _)).bnd fun _ => ret_m _) fun d =>
 Tp.b0 (isPR_st _) (fun _ => (cond_m (brkT_m _ _ _) (ret_m _)).bnd fun _ => ret_m _) fun q =>
 Tp.b0 (ite_st (brkT_st roo_go _ _) (ret_st _)) (fun _ => ret_m _) fun r => ret_t ⟨rfl, ⟨he.ifs, he.ms, he.vs, he.ins, he.ps, he.fs⟩, rfl, rfl, rfl⟩
theorem key_t {s : Sy} (he : Emp s) : Tp [] (keyT (typF N) (litF true N) N s) IsY := by
 intro c hc hk
 have ha : ∀ k, Emp (s.at k c.tok) := fun k => ⟨he.ifs, he.ms, he.vs, he.ins, he.ps, he.fs⟩
 obtain ⟨R, hR⟩ : ∃ R, R = (kwT bScalar (scaT (litF true N) (s.at 2 c.tok)) (kwT bType (objT (typF N) (litF true N) N (s.at 3 c.tok)) (kwT bIface (objT (typF N) (litF true N) N (s.at 4 c.tok)) (kwT bUnion (uniT (litF true N) N (s.at 5 c.tok)) (kwT bEnum (enuT (litF true N) (s.at 6 c.tok)) (kwT bInput (inuT (typF N) (litF true N) (s.at 7 c.tok)) (cond s.ex (stopR s) (kwT bDirec (dirT (typF N) (litF true N) N (s.at 8 c.tok)) (stopR s))))))))) := ⟨_, rfl⟩
 have hRt : Tp [] R IsY := by
  rw [hR]
  have n2 : ∀ k : Int, k ≠ 1 → (s.at k c.tok).k ≠ 1 := fun k h => h
  have m8 : Dm (kwT bDirec (dirT (typF N) (litF true N) N (s.at 8 c.tok)) (stopR s)) := kwT_m (dird_m N _) (stopR_m _)
  have m8' : Dm (cond s.ex (stopR s) (kwT bDirec (dirT (typF N) (litF true N) N (s.at 8 c.tok)) (stopR s))) := cond_m (stopR_m _) m8
  have m7 := kwT_m (q := bInput) (inu_m N (s.at 7 c.tok)) m8'
  have m6 := kwT_m (q := bEnum) (enu_m N (s.at 6 c.tok)) m7
  have m5 := kwT_m (q := bUnion) (uni_m N (s.at 5 c.tok)) m6
  have m4 := kwT_m (q := bIface) (obj_m N (s.at 4 c.tok)) m5
  have m3 := kwT_m (q := bType) (obj_m N (s.at 3 c.tok)) m4
  exact kw_t (sca_t N (ha 2) (n2 2 (by decide))) (kw_t (obj_t N (ha 3) (n2 3 (by decide))) (kw_t (obj_t N (ha 4) (n2 4 (by decide))) (kw_t (uni_t N (ha 5) (n2 5 (by decide))) (kw_t (enu_t N (ha 6) (n2 6 (by decide))) (kw_t (inu_t N (ha 7) (n2 7 (by decide))) (cond_t (fun _ => stopR_t _) (fun _ => kw_t (dird_t N (ha 8) (n2 8 (by decide))) (stopR_t _) (dird_m N _) (stopR_m _))) (inu_m N _) m8') (enu_m N _) m7) (uni_m N _) m6) (obj_m N _) m5) (obj_m N _) m4) (sca_m N _) m3
 have hk' : (cond (c.isW [bSchema]) (schT (litF true N) (s.at 1 c.tok)) R (c.word bSchema)).2.kd = 0 := by rw [hR]; exact hk
 suffices h : ∃ l, IsY (cond (c.isW [bSchema]) (schT (litF true N) (s.at 1 c.tok)) R (c.word bSchema)).1 ([] ++ l) ∧ Chn c.ts c.ix l (cond (c.isW [bSchema]) (schT (litF true N) (s.at 1 c.tok)) R (c.word bSchema)).2.ix by
  rw [hR] at h
  exact h
 have s0 : Stp c (c.word bSchema) := wordR_st bSchema c hc
 cases hw : c.isW [bSchema] with
 | false =>
  rw [hw] at hk'
  have e : c.word bSchema = c := by unfold Cu.word; rw [hw]; rfl
  rw [e] at hk' ⊢
  exact hRt c hc hk'
 | true =>
  rw [hw] at hk'
  obtain ⟨l, ⟨h1, h2, h3, h4, h5⟩, h6⟩ := sch_t N (ha 1) (c.word bSchema) s0.ok hk'
  have hn := isW_N hw
  have hx : bSchema = c.tok.tx := by
   unfold Cu.isW at hw
   simp only [Bool.and_eq_true] at hw
   simpa [inW] using hw.2
  obtain ⟨S, hS⟩ : ∃ S, S = (schT (litF true N) (s.at 1 c.tok) (c.word bSchema)).1 := ⟨_, rfl⟩
  rw [← hS] at h2 h3 h4 h5
  have hix := ((sch_st N (s.at 1 c.tok)) _ s0.ok).ix
  refine ⟨[S.own], ⟨[], [], [], [], [], [], ?_⟩, ?_⟩
  ·show Nms (schT (litF true N) (s.at 1 c.tok) (c.word bSchema)).1.ifs [] ∧ _
   rw [cond_true, ← hS]
   exact ⟨Emp.n h2.ifs, Emp.n h2.ms, Emp.c h2.vs, Emp.c h2.ins, Emp.n h2.ps, Emp.c h2.fs, rfl⟩
  ·have ho : S.own = (c.tok.tx, c.tok.ln, c.tok.co) := by
    unfold Sy.own
    rw [if_pos (show S.k = 1 from h3), h4, h5, ← hx]
    rfl
   rw [ho]
   exact one_at hc hn (Nat.le_trans s0.ix hix)
theorem key_mm (s : Sy) : Dm (keyT (typF N) (litF true N) N s) := tokR_m.bnd fun t =>
 kwT_m (sch_m N _) (kwT_m (sca_m N _) (kwT_m (obj_m N _) (kwT_m (obj_m N _) (kwT_m (uni_m N _) (kwT_m (enu_m N _) (kwT_m (inu_m N _) (cond_m (stopR_m _) (kwT_m (dird_m N _) (stopR_m _)))))))))
def IsD (d : Dt) (l : List Nm) : Prop := ∃ s : Sy, d = s.d ∧ IsY s l
theorem def_t : Tp [] (defT (typF N) (litF true N) N) IsD :=
 Tp.b0 noteR_st (fun n => (cond_m (ret_m _) (wordR_m _)).bnd fun x => Dm.bnd (key_mm N _) fun s => cond_m (stopR_m _) (ret_m _)) fun n =>
 Tp.b0 (ite_st (ret_st _) (wordR_st _)) (fun x => Dm.bnd (key_mm N _) fun s => cond_m (stopR_m _) (ret_m _)) fun x =>
 Tp.bnd (key_st N _) (fun s => cond_m (stopR_m _) (ret_m _)) (key_t N ⟨rfl, rfl, rfl, rfl, rfl, rfl⟩) fun s l hl => cond_t (fun _ => stopR_t _) (fun _ => ret_t ⟨s, rfl, hl⟩)
end
theorem defsF_t {E : Cu → Dt × Cu} {V : Dt → List Nm → Prop} (hG : Goes (optR E)) (h : Tp [] E V) : ∀ (g : Nat) (l : List Dt) (p : List Nm) (c : Cu), c.Ok → Cat V l p → ∀ x, (defsF (optR E) g l c).1 = some x → ∃ q, Cat V x (p ++ q) ∧ Chn c.ts c.ix q (defsF (optR E) g l c).2.ix
 | 0, l, p, c, hc, hl, x, hx => by cases hx
 | g + 1, l, p, c, hc, hl, x, hx => by
  simp only [defsF] at hx ⊢
  by_cases hq : l.length = 0 ∨ c.tok.k ≠ 0
  ·rw [if_pos hq] at hx ⊢
   cases he : (optR E c).1 with
   | none => rw [he] at hx; cases hx
   | some d =>
    rw [he] at hx
    obtain ⟨y, h1, h2⟩ := optR_t h hc he
    have s := (hG c hc).1
    obtain ⟨q, h3, h4⟩ := defsF_t hG h g (l ++ [d]) (p ++ y) _ s.ok (hl.snoc h1) x hx
    rw [s.ts] at h4
    exact ⟨y ++ q, by rw [← List.append_assoc]; exact h3, h2.app h4⟩
  ·rw [if_neg hq] at hx ⊢
   dsimp only at hx
   split at hx
   ·obtain rfl := Option.some.inj hx
    exact ⟨[], by rw [List.append_nil]; exact hl, (fin_stp hc).ix⟩
   ·cases hx
theorem sdoc_places (z : List Int) (d : Int) {l : List Dt} (h : (sdocG z d).1 = some l) : ∃ q j, Cat IsD l q ∧ Chn (toks z) 0 q j := by
 obtain ⟨q, h1, h2⟩ := defsF_t (sd_go _) (def_t _) _ [] [] (newG z d) (newG_ok' z d) Cat.nil l h
 exact ⟨q, _, h1, h2⟩
set_option maxHeartbeats 2000000 in
set_option maxRecDepth 4000 in
theorem stands_ok (p n cap : Nat) (ts : List Tk) (q m : Nat) (t : Tk) (w : World) (hn : ts.length = n) (hn2 : n ≤ 4294967296) (hp : p < w.heap.size) (hrows : ∀ i u, ts[i]? = some u → RowAt w p (i * 7) u.cells) (hm : ts[m]? = some t) (hk3 : t.k = 3) (hqm : q ≤ m) (hun : ∀ q u, ts[q]? = some u → u.ln = t.ln ∧ u.co = t.co → q = m) :
  Calls Tryz.prog 18 #[.slice (some ⟨p, 0, none⟩) n cap, .int .i64 q, .agg #[.int .i64 t.ln, .int .i64 t.co], .string t.tx] w fun e w' => e = .returned (.tuple #[.bool true, .int .i64 m]) ∧ Below w.heap.size w w' := by
 have hml : m < ts.length := (List.getElem?_eq_some_iff.1 hm).1
 go_enter Tryz.func18, Tryz.ntmps18
 go_wp2_with fail
 obtain ⟨w0, hw0⟩ : ∃ w0, w0 = w.alloc (.cells #[.int .i64 t.ln, .int .i64 t.co] 37) := ⟨_, rfl⟩
 have b0 : Below w.heap.size w w0 := by rw [hw0]; exact ba
 have hat : w0.heap[w.heap.size]? = some (.cells #[.int .i64 t.ln, .int .i64 t.co] 37 (0, 0)) := by rw [hw0]; exact heap_alloc_new _ _
 have z0 : w.heap.size + 1 ≤ w0.heap.size := by rw [hw0]; simp
 have hR0 := Hi (fun i u hu => (hrows i u hu).below b0)
 rw [← hw0]
 clear hw0 hrows
 go_loopw [10] (fun i wr => ∃ k : Nat, k ≤ m ∧ i = .int .i64 k ∧ Below w0.heap.size w0 wr) (fun i _ => m + 1 - (intOf i).toNat)
 case atStart => exact ⟨q, hqm, rfl, Below.refl _ _⟩
 case round =>
  obtain ⟨k, hk, rfl, hb⟩ := hrel
  have ki : (k : Int) < (n : Int) := by omega
  have hkl : k < ts.length := by omega
  have hget := List.getElem?_eq_getElem hkl
  obtain ⟨u, hu⟩ : ∃ u, u = ts[k] := ⟨_, rfl⟩
  rw [← hu] at hget
  clear hu
  have hrow7 := (uh hR0) k u hget
  unfold Tk.cells at hrow7
  have hc := fun (q : Nat) (v : Value) hv => (hb.cell (p := ⟨p, k * 7 + q, none⟩) (show p < w0.heap.size by omega)).trans (hrow7 q v hv)
  have m0 : wr.cell? ⟨p, k * 7, none⟩ = some (.int .i64 u.k) := hc 0 _ rfl
  have m1 : wr.cell? ⟨p, k * 7 + 1, none⟩ = some (.int .i64 u.ln) := hc 1 _ rfl
  have m2 : wr.cell? ⟨p, k * 7 + 2, none⟩ = some (.int .i64 u.co) := hc 2 _ rfl
  have m5 : wr.cell? ⟨p, k * 7 + 5, none⟩ = some (.string u.tx) := hc 5 _ rfl
  have hA := (hb.block w.heap.size (by omega)).trans hat
  have x0 : wr.cell? ⟨w.heap.size, 0, none⟩ = some (.int .i64 t.ln) := (dt.cell_cells hA 0).trans rfl
  have x1 : wr.cell? ⟨w.heap.size, 1, none⟩ = some (.int .i64 t.co) := (dt.cell_cells hA 1).trans rfl
  have HB := Hi hb
  clear hc hrow7 hA hb
  by_cases hkm : k = m
  ·subst hkm
   rw [hm] at hget
   obtain rfl := Option.some.inj hget
   rw [hk3] at m0
   clear hget hun hm hR0
   go_wp2_with fail
   go_region
   go_wp2_with fail
   go_ret2
   exact ⟨rfl, b0.trans (((uh HB).drew).mono b0.size)⟩
  ·have hne : ¬ (u.ln = t.ln ∧ u.co = t.co) := fun e => hkm (hun k u hget e)
   have HN := Hi hne
   clear hne m0 m5
   obtain ⟨uk, ul, uo, uf, ug, ux, uv⟩ := u
   obtain ⟨tk, tl, to', tf, tg, tx, tv⟩ := t
   simp only at m1 m2 x0 x1
   have hnn : ¬ (ul = tl ∧ uo = to') := uh HN
   by_cases hl : ul = tl
   ·subst hl
    have ho : ¬ uo = to' := fun e => hnn ⟨rfl, e⟩
    clear hnn
    go_wp2_with fail
    go_region
    go_wp2_with fail
    go_roundw
    case rel => exact ⟨k + 1, by omega, by go_num, (uh HB).drew⟩
    case measure => simp only [intOf]; omega
   ·clear hnn
    go_wp2_with fail
    go_region
    go_wp2_with fail
    go_roundw
    case rel => exact ⟨k + 1, by omega, by go_num, (uh HB).drew⟩
    case measure => simp only [intOf]; omega
end Go.Proofs.YtifbkdicglcogaaGreat.cu
