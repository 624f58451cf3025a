import Derived.Test.YthpcpminikmcbaaTft11
import Derived.Test.YthpcpminikmcbaaTft3
namespace Go.Proofs.Ythpcpminikmcbaa.og
open Go.ChangeShapes Go.WideShapes Go.ChangeAt Go.RowKit
open vl hiding cB cFl cS cF cI cK cIt
open stp (St Pth St3)
set_option linter.unusedVariables false
set_option linter.unusedSimpArgs false
/-- a new list of steps -/
abbrev GrS (B : Nat) (l : List St) (sl : Value) (w : World) : Prop := GrV (fun s cs => cs = stC s) 34 3 B l sl w
theorem pth_get {w : World} {a : Option Addr} {n : Nat} {ss : List St} (h : Pth w a n ss) {k : Nat} {s : St} (hs : ss[k]? = some s) : ∃ b off, a = some ⟨b, off, none⟩ ∧ w.rangeAt b (off + k * 3) (stC s) := by
  obtain ⟨hl, hc⟩ := h
  have hk := (List.getElem?_eq_some_iff.1 hs).1
  rcases hc with h0 | ⟨b, off, rfl, hlt, hc⟩
  · omega
  · refine ⟨b, off, rfl, fun j u hu => ?_⟩
    obtain ⟨s', hs', h3⟩ := hc k (by omega)
    obtain rfl : s = s' := by rw [hs] at hs'; simpa using hs'
    unfold St3 at h3
    have hj : j < 3 := by have := (List.getElem?_eq_some_iff.1 hu).1; simpa [stC] using this
    rcases (by omega : j = 0 ∨ j = 1 ∨ j = 2) with rfl | rfl | rfl
    · simp [stC] at hu; rw [← hu]; exact h3.1
    · simp [stC] at hu; rw [← hu]; exact h3.2.1
    · simp [stC] at hu; rw [← hu]; exact h3.2.2
theorem buildS1 (s : St) (w : World) : (Instr.buildSlice 29 1 #[(0, .agg (stC s).toArray)]).run Try.prog w = .ok (.slice (some ⟨w.heap.size, 0, none⟩) 1 1) (w.alloc (.cells (stC s).toArray 34)) := by
  simp only [stC]; go_simp
theorem infoS3 : (Try.prog.info? 34).map (·.size) = some 3 := by kernel_rfl
theorem wp_lg {W w : World} {l : List St} {sl : Value} {ops : Array Oper} {rest : List Oper} {o : Oper} {a : Act} {Q : Exit → Act → World → Prop} (hG : GrS W.heap.size l sl w) (hB : Gb W w) (hgd : o.guard = none) (s x : Operand)
    (ho : o.op = .call { callee := .builtin .append, args := #[s, x], argTypes := #[29, 29] }) (hs : a.eval s = sl) (t : St) (N : Nat) (hN : N = w.heap.size) (hx : a.eval x = .slice (some ⟨N, 0, none⟩) 1 1) (hn : l.length + 1 ≤ 1048577)
    (h : ∀ g n cap w', GrS W.heap.size (l ++ [t]) (.slice (some ⟨g, 0, none⟩) n cap) w' → Gb W w' → wpList Try.prog ops Q rest (a.put o.dst (.slice (some ⟨g, 0, none⟩) n cap)) w') : wpList Try.prog ops Q (o :: rest) a (w.alloc (.cells (stC t).toArray 34)) := by
  obtain ⟨i, z, hi, hz, hsz, hb, hc⟩ := infoSz
  have hlt := hG.lt
  have hsB := hB.size
  refine wp_grv hgd s x ho Try.underlying29 hi hz hsz hb hc (by omega) W.heap.size l sl hs hG t (stC t) rfl rfl (by simp [stC, Value.oneCell']) N hN hx (by omega) (by unfold maxLen; omega) hsB ?_
  intro g cap w' hg hgr hat hlt'
  exact h g _ cap w' hg (Below.trans hB (((Below.refl _ _).alloc hsB _).grown hgr (by simp; omega) (fun q hq => (hlt q hq).1)))
theorem GrS.older {B B' : Nat} {l : List St} {sl : Value} {w : World} (h : GrS B l sl w) (hb : B' ≤ B) : GrS B' l sl w := by
  obtain ⟨xss, h1, h2⟩ := h
  exact ⟨xss, ⟨h1.1, h1.2.imp id (fun ⟨g, cap, cur, e, hg, r⟩ => ⟨g, cap, cur, e, by omega, r⟩)⟩, h2⟩
set_option maxHeartbeats 8000000 in
set_option maxRecDepth 6000 in
/-- ref03.longer: a path and one more step, in new memory -/
theorem longer_ok (ss : List St) (s : St) (ap : Option Addr) (n c : Nat) (w : World) (hp : Pth w ap n ss) (hn : n ≤ 1048576) :
    Calls Try.prog 55 #[.slice ap n c, .agg (stC s).toArray] w fun e w' => ∃ sl, e = .returned sl ∧ GrS w.heap.size (ss ++ [s]) sl w' ∧ Below w.heap.size w w' := by
  have hlen := hp.len
  obtain ⟨W, eW⟩ : ∃ W, W = w.alloc (.cells (stC s).toArray 34) := ⟨_, rfl⟩
  have EW0 := hide eW
  have BW : Below w.heap.size w W := by rw [eW]; exact (Below.refl _ _).alloc (Nat.le_refl _) _
  have SW : w.heap.size < W.heap.size := by rw [eW]; simp
  have R_s := hide (show W.rangeAt w.heap.size 0 (stC s) from fun j u hu => by
    rw [Nat.zero_add, eW, World.cell?_alloc_at _ _ _ _ rfl]; simpa using hu)
  have HP := hide (hp.below BW)
  obtain ⟨i, z, hi, hz, hsz, hby, hcz⟩ := infoSz
  obtain ⟨X, hmk, hrow, hgr⟩ := run_make_own W W.heap.size 29 34 i z 3 Try.underlying29 hi hz hsz .i64 .i64 (n + 1) (by rw [hby]; omega) (by unfold maxLen; omega) (Nat.le_refl _)
  have BX : Below W.heap.size W X := (Below.refl _ _).grown hgr (Nat.le_refl _) (fun k hk => by cases hk)
  have eSW : W.heap.size = w.heap.size + 1 := by rw [unhide EW0]; simp
  have G0 := hide (show GrS W.heap.size [] (.slice (some ⟨W.heap.size, 0, none⟩) 0 (n + 1)) X from ⟨[], hrow, trivial⟩)
  have hn1 : (((n + 1 : Nat) : Int)) = (n : Int) + 1 := by omega
  rw [hn1] at hmk
  have EW := hide eW
  clear eW hp hrow hgr hi hz hsz hby hcz
  go_enter Try.func55, Try.ntmps55
  have eW2 := unhide EW
  rw [eW2] at hmk
  go_wp2_with fail
  clear hmk eW2
  go_loopw [6, 5] (fun vi v5 wr => ∃ (k : Nat) (sl : Value), k ≤ n ∧ vi = .int .i64 k ∧ v5 = sl ∧ vl.Hid (GrS W.heap.size (ss.take k) sl wr) ∧ vl.Hid (Gb W wr)) (fun vi _ _ => n - (intOf vi).toNat)
  case atStart => exact ⟨0, _, Nat.zero_le _, rfl, rfl, by rw [List.take_zero, ← eSW]; exact G0, BX⟩
  case round =>
    clear G0 BX
    obtain ⟨k, sl, hk, rfl, rfl, HG, HB⟩ := hrel
    by_cases hlt : k < n
    · have ki : (k : Int) < (n : Int) := by omega
      obtain ⟨t, ht⟩ : ∃ t, ss[k]? = some t := ⟨_, List.getElem?_eq_getElem (by omega)⟩
      obtain ⟨p, off, rfl, hr⟩ := pth_get (unhide HP) ht
      have hlp : p < W.heap.size := World.block_lt_of_cell? W _ (hr 0 _ rfl)
      have hr' := hide (show wr.rangeAt p (off + k * 3) (stC t) from fun j u hu => (Below.cell (unhide HB) (p := ⟨p, off + k * 3 + j, none⟩) hlp).trans (hr j u hu))
      have Ht := hide ht
      have hbS := hide (buildS1 t wr)
      have hnk := hide (show (ss.take k).length + 1 ≤ 1048577 by have := List.length_take_le k ss; omega)
      clear hr ht
      go_wp2_with (first
        | refine wpList_load_mid (by rfl) 34 _ (by rfl) p (off + k * 3) (by rfl) (stC t) _ (unhide hr') Try.underlying34 (by rfl) infoS3 ?_
        | refine wpList_buildOne (by rfl) 29 _ (by rfl) (.agg (stC t).toArray) _ (by rfl) (unhide hbS) ?_
        | (at_builtin; refine wp_lg (unhide HG) (unhide HB) (by rfl) _ _ (by rfl) (by rfl) t wr.heap.size rfl (by rfl) (unhide hnk) ?_; intro g n4 cap w4 g4 b4; have HG4 := hide g4; have HB4 := hide b4; clear g4 b4))
      go_roundw
      case rel => exact ⟨k + 1, _, by omega, by go_num, rfl, by rw [List.take_add_one, unhide Ht]; exact HG4, HB4⟩
      case measure => simp [intOf]; omega
    · obtain rfl : k = n := by omega
      have hG := unhide HG
      rw [List.take_of_length_le (Nat.le_of_eq hlen)] at hG
      have HG2 := hide hG
      have hls : w.heap.size < W.heap.size := SW
      have hr' := hide (show wr.rangeAt w.heap.size 0 (stC s) from fun j u hu => (Below.cell (unhide HB) (p := ⟨w.heap.size, 0 + j, none⟩) hls).trans (unhide R_s j u hu))
      have hbS := hide (buildS1 s wr)
      have hnk := hide (show ss.length + 1 ≤ 1048577 by omega)
      clear hG HG
      go_wp2_with (first
        | refine wpList_load_mid (by rfl) 34 _ (by rfl) w.heap.size 0 (by rfl) (stC s) _ (unhide hr') Try.underlying34 (by rfl) infoS3 ?_
        | refine wpList_buildOne (by rfl) 29 _ (by rfl) (.agg (stC s).toArray) _ (by rfl) (unhide hbS) ?_
        | (at_builtin; refine wp_lg (unhide HG2) (unhide HB) (by rfl) _ _ (by rfl) (by rfl) s wr.heap.size rfl (by rfl) (unhide hnk) ?_; intro g n4 cap w4 g4 b4; have HG4 := hide g4; have HB4 := hide b4; clear g4 b4))
      go_ret
      exact ⟨_, rfl, (unhide HG4).older (Nat.le_of_lt SW), BW.trans (Below.mono (unhide HB4) BW.size)⟩
end Go.Proofs.Ythpcpminikmcbaa.og
namespace Go.Proofs.Ythpcpminikmcbaa.og
open Go.ChangeShapes Go.WideShapes Go.ChangeAt Go.RowKit
open vl hiding cB cFl cS cF cI cK cIt
open stp (St Pth St3)
set_option linter.unusedVariables false
set_option linter.unusedSimpArgs false
mutual
/-- all parts of a value with their paths, in order -/
def pts : Vl → List St → List (List St × Vl)
  | .mk kd b n f tx ty its fls, p => (p, .mk kd b n f tx ty its fls) :: (if kd = 5 then ptsI its 0 p else if kd = 6 then ptsF fls p else [])
def ptsI : Vls → Nat → List St → List (List St × Vl)
  | .nil, _, _ => []
  | .cons v r, i, p => pts v (p ++ [⟨⟨#[]⟩, (i : Int), true⟩]) ++ ptsI r (i + 1) p
def ptsF : Fls → List St → List (List St × Vl)
  | .nil, _ => []
  | .cons nm v r, p => pts v (p ++ [⟨nm, 0, false⟩]) ++ ptsF r p
end
theorem ptsI_flat : ∀ (l : Vls) (i : Nat) (p : List St), ptsI l i p = ((l.list.zipIdx i).map (fun q => ((⟨⟨#[]⟩, (q.2 : Int), true⟩ : St), q.1))).flatMap (fun q => pts q.2 (p ++ [q.1]))
  | .nil, i, p => by simp [ptsI, Vls.list]
  | .cons v r, i, p => by rw [ptsI, ptsI_flat r]; simp [Vls.list, List.zipIdx_cons]
theorem ptsF_flat : ∀ (l : Fls) (p : List St), ptsF l p = (l.list.map (fun q => ((⟨q.1, 0, false⟩ : St), q.2))).flatMap (fun q => pts q.2 (p ++ [q.1]))
  | .nil, p => by simp [ptsF, Fls.list]
  | .cons nm v r, p => by rw [ptsF, ptsF_flat r]; simp [Fls.list]
theorem pts_kids (v : Vl) (p : List St) : pts v p = (p, v) :: (kids v).flatMap (fun q => pts q.2 (p ++ [q.1])) := by
  obtain ⟨kd, b, n, f, tx, ty, its, fls⟩ := v
  rw [pts, ptsI_flat, ptsF_flat]
  unfold kids
  simp only
  split
  · rfl
  · split
    · rfl
    · rfl
mutual
theorem pts_len : ∀ (v : Vl) (p : List St), (pts v p).length = cnt v
  | .mk kd b n f tx ty its fls, p => by
    rw [pts, cnt, List.length_cons]
    split
    · rw [ptsI_len its 0 p]; omega
    · split
      · rw [ptsF_len fls p]; omega
      · simp
theorem ptsI_len : ∀ (l : Vls) (i : Nat) (p : List St), (ptsI l i p).length = cntI l
  | .nil, i, p => by simp [ptsI, cntI]
  | .cons v r, i, p => by rw [ptsI, List.length_append, pts_len v, ptsI_len r, cntI]
theorem ptsF_len : ∀ (l : Fls) (p : List St), (ptsF l p).length = cntF l
  | .nil, p => by simp [ptsF, cntF]
  | .cons nm v r, p => by rw [ptsF, List.length_append, pts_len v, ptsF_len r, cntF]
end
/-- a part as pergolaref03 keeps it: its path lies in a block of its own, its value is read in the older world V -/
def OwP (V : World) (w : World) (q : List St × Vl) (cs : List Value) (F : List Nat) : Prop :=
  ∃ (ap : Option Addr) (n c : Nat) (us : List Value), cs = .slice ap n c :: us ∧ VlC V q.2 us ∧ n = q.1.length ∧ ((q.1 = [] ∧ F = []) ∨ ∃ p, ap = some ⟨p, 0, none⟩ ∧ F = [p] ∧ ∀ (j : Nat) (s : St), q.1[j]? = some s → w.rangeAt p (j * 3) (stC s))
theorem agP (V : World) : ∀ (w w' : World) (q : List St × Vl) (cs : List Value) (F : List Nat), Agree F w w' → OwP V w q cs F → OwP V w' q cs F := by
  rintro w w' q cs F ha ⟨ap, n, c, us, h1, h2, h3, h4⟩
  refine ⟨ap, n, c, us, h1, h2, h3, ?_⟩
  rcases h4 with h4 | ⟨p, h5, rfl, h6⟩
  · exact .inl h4
  · exact .inr ⟨p, h5, rfl, fun j s hs i u hu => (ha p (List.mem_singleton.2 rfl) _).trans (h6 j s hs i u hu)⟩
/-- an element of a new list -/
theorem GrV.get {E : Type} {R : E → List Value → Prop} {t : TypeId} {size B : Nat} {sl : Value} {w : World} {l : List E} (h : GrV R t size B l sl w) (hR : ∀ e cs, R e cs → cs.length = size) : ∀ {k : Nat} {e : E}, l[k]? = some e → ∃ g cap cs, sl = .slice (some ⟨g, 0, none⟩) l.length cap ∧ R e cs ∧ w.rangeAt g (k * size) cs := by
  intro k e hk
  obtain ⟨xss, h1, h2⟩ := h
  have hc := fun (g : Nat) (hg : sl.ownBlock = some g) => h1.cells hg
  have key : ∀ {l : List E} {xss : List (List Value)} {k : Nat}, P2 R l xss → l[k]? = some e → ∃ cs, R e cs ∧ ∀ j u, cs[j]? = some u → xss.flatten[k * size + j]? = some u := by
    intro l
    induction l with
    | nil => intro xss k _ hk; simp at hk
    | cons a r ih =>
      intro xss k hp hk
      match xss, hp with
      | x :: xs, hp =>
        have hx := hR _ _ hp.1
        cases k with
        | zero =>
          obtain rfl : a = e := by simpa using hk
          refine ⟨x, hp.1, fun j u hu => ?_⟩
          rw [List.flatten_cons, Nat.zero_mul, Nat.zero_add, List.getElem?_append_left (List.getElem?_eq_some_iff.1 hu).1]
          exact hu
        | succ k =>
          obtain ⟨cs, c1, c2⟩ := ih hp.2 (by simpa using hk)
          refine ⟨cs, c1, fun j u hu => ?_⟩
          rw [List.flatten_cons, List.getElem?_append_right (by rw [hx, Nat.succ_mul]; omega), hx, show (k + 1) * size + j - size = k * size + j by rw [Nat.succ_mul]; omega]
          exact c2 j u hu
  obtain ⟨cs, c1, c2⟩ := key h2 hk
  rcases h1.2 with ⟨rfl, h0⟩ | ⟨g, cap, cur, rfl, hg, hh, hc1, hc2, r⟩
  · have := (List.getElem?_eq_some_iff.1 hk).1
    omega
  · exact ⟨g, cap, cs, rfl, c1, fun j u hu => by have := hc g rfl _ u (c2 j u hu); rw [Addr.add_mid, Nat.zero_add] at this; exact this⟩
/-- the two lists stay where nothing of theirs is touched -/
theorem CgS.keep {V W w w' : World} {l4 : List St} {l5 : List Vl} {s4 s5 : Value} (h : CgS V W l4 l5 s4 s5 w) (hb : Below W.heap.size w w') (h4 : ∀ b, s4.ownBlock = some b → w'.heap[b]? = w.heap[b]?) (h5 : ∀ b, s5.ownBlock = some b → w'.heap[b]? = w.heap[b]?) : CgS V W l4 l5 s4 s5 w' := by
  have kp : ∀ {t : TypeId} {size : Nat} {sl : Value} {n : Nat} {xs : List Value}, (∀ b, sl.ownBlock = some b → w'.heap[b]? = w.heap[b]?) → w.ownsRow W.heap.size t size sl n xs → w'.ownsRow W.heap.size t size sl n xs := fun {t size sl n xs} hk h => ⟨h.1, h.2.imp id (fun ⟨g, cap, cur, e, hg, hh, r⟩ => ⟨g, cap, cur, e, hg, (hk g (by rw [e]; rfl)).trans hh, r⟩)⟩
  obtain ⟨⟨x4, a4, b4⟩, ⟨x5, a5, b5⟩, ne, bel⟩ := h
  exact ⟨⟨x4, kp h4 a4, b4⟩, ⟨x5, kp h5 a5, b5⟩, ne, bel.trans hb⟩
theorem wpO_growA {E : Type} {Ow : World → E → List Value → List Nat → Prop} (ha : ∀ w w' e cs F, Agree F w w' → Ow w e cs F → Ow w' e cs F) {P : Program} {t e : TypeId} {size bytes : Nat} {i : TypeInfo} {z : Value} {w : World} {o : Oper} {a : Act} {K : Act → World → Prop} {Q : Exit → Act → World → Prop} (s x : Operand)
    (ho : o.op = .call { callee := .builtin .append, args := #[s, x], argTypes := #[t, t] }) (ht : P.underlying t = some (.slice e)) (hi : P.info? e = some i) (hz : i.zero = some z)
    (hsize : i.size = size) (hby : i.bytes = bytes) (hzs : z.cells.size = size) (hsz : 0 < size)
    (B : Nat) (l : List E) (sl : Value) (G : List Nat) (hs : a.eval s = sl) (hg : Grow Ow e size w B l sl G) (v : E) (ds : List Value) (G' : List Nat) (hv : Ow w v ds G') (hl : ds.length = size) (h1 : ∀ u ∈ ds, u.oneCell' = true)
    (hn' : G'.Nodup) (hr' : ∀ b ∈ G', B ≤ b ∧ b < w.heap.size ∧ b ∉ G ∧ sl.ownBlock ≠ some b) (hf' : Fz w G') (N : Nat) (hN : N = w.heap.size) (hx : a.eval x = .slice (some ⟨N, 0, none⟩) 1 1) (hbytes : (l.length + 1) * bytes ≤ 140737488355328) (h63 : l.length + 1 ≤ maxLen) (hB : B ≤ w.heap.size)
    (h : ∀ sl' w', Grow Ow e size w' B (l ++ [v]) sl' (G ++ G') → Below B w w' → (∀ b, b < w.heap.size → sl.ownBlock ≠ some b → w'.heap[b]? = w.heap[b]?) → (∀ k, sl'.ownBlock = some k → sl.ownBlock = some k ∨ w.heap.size ≤ k) → K (a.put o.dst sl') w') : o.wp P a (w.alloc (.cells ds.toArray e)) K Q := by
  subst hN
  obtain ⟨xss, hrow, hol⟩ := hg.row
  refine wp_append_lies _ s x t ho B e i z size bytes ht hi hz hsize hby hzs hsz sl l.length xss.flatten hs (World.ownsRow.alloc hrow _) ⟨w.heap.size, 0, none⟩ 1 1 ds hx (by rw [hl]; omega) (fun j u hu => by
    rw [Addr.add_mid, Nat.zero_add, World.cell?_alloc_at _ _ _ _ rfl]; simpa using hu) h1 (by omega) h63 hbytes (by simp; omega) (w.heap.size + 1) (by simp) ?_
  intro g cap w' hrow' hgr hat hlt
  have hold : ∀ b, b < w.heap.size → sl.ownBlock ≠ some b → w'.heap[b]? = w.heap[b]? := fun b hb hne => by
    rw [hgr.block b (by simp; omega) (fun e => hne e.symm)]
    exact Below.heap_alloc w _ b hb
  have hsz' : w.heap.size ≤ w'.heap.size := by have := hgr.size; simp at this; omega
  refine h _ w' ⟨?_, ?_, ?_, ?_, xss ++ [ds], ?_, ?_⟩ (((Below.refl _ _).alloc hB _).grown hgr (by simp; omega) (fun k hk => (hrow.lt k hk).1)) hold (fun k hk => by
    have hk : g = k := Option.some.inj hk
    subst hk
    rcases hat with hat | hat
    · exact .inl hat
    · exact .inr (by omega))
  · rw [List.nodup_append]
    exact ⟨hg.nodup, hn', fun x hx y hy e => (hr' y hy).2.2.1 (e ▸ hx)⟩
  · intro b hb
    rcases List.mem_append.1 hb with hb | hb
    · exact ⟨(hg.rng b hb).1, Nat.lt_of_lt_of_le (hg.rng b hb).2 hsz'⟩
    · exact ⟨(hr' b hb).1, Nat.lt_of_lt_of_le (hr' b hb).2.1 hsz'⟩
  · intro b hb e
    have hgb : g = b := Option.some.inj e
    subst hgb
    have hlt' : g < w.heap.size := by
      rcases List.mem_append.1 hb with hb | hb
      · exact (hg.rng g hb).2
      · exact (hr' g hb).2.1
    rcases hat with hat | hat
    · rcases List.mem_append.1 hb with hb | hb
      · exact hg.own g hb hat
      · exact (hr' g hb).2.2.2 hat
    · omega
  · intro b hb j
    rcases List.mem_append.1 hb with hb | hb
    · exact (frozen_blk (hold b (hg.rng b hb).2 (hg.own b hb)) j).trans (hg.fz b hb j)
    · exact (frozen_blk (hold b (hr' b hb).2.1 (hr' b hb).2.2.2) j).trans (hf' b hb j)
  · simpa using hrow'
  · refine OwL.agree ha (fun b hb j => ?_) (OwL.snoc hv hol)
    rcases List.mem_append.1 hb with hb | hb
    · exact cell_blk (hold b (hg.rng b hb).2 (hg.own b hb)) j
    · exact cell_blk (hold b (hr' b hb).2.1 (hr' b hb).2.2.2) j
end Go.Proofs.Ythpcpminikmcbaa.og
namespace Go.Proofs.Ythpcpminikmcbaa.og
open Go.ChangeShapes Go.WideShapes Go.ChangeAt Go.RowKit Go.Shelf
open vl hiding cB cFl cS cF cI cK cIt
open stp (St Pth St3 c3 c3_lt c3_gt c3_eq lexS pN pI)
set_option linter.unusedVariables false
set_option linter.unusedSimpArgs false
theorem grown_set (w : World) (b i : Nat) (v : Value) : w.grownBy (w.setCell ⟨b, i, none⟩ v) (some b) := ⟨rfl, rfl, rfl, by simp, fun k _ hk => setCell_blk w b i v k (fun e => hk (by rw [e]))⟩
theorem buildP1 (p : Int × Int) (w : World) : (Instr.buildSlice 53 1 #[(0, .agg (posC p).toArray)]).run Try.prog w = .ok (.slice (some ⟨w.heap.size, 0, none⟩) 1 1) (w.alloc (.cells (posC p).toArray 52)) := by
  simp only [posC]; go_simp
theorem load1P (w : World) (b o : Nat) (u : Value) (h : w.cell? ⟨b, o, none⟩ = some u) : (Instr.loadAt 53 (.pointer (some ⟨b, o, none⟩))).run Try.prog w = .ok u w := by go_simp
theorem load1S (w : World) (b o : Nat) (u : Value) (h : w.cell? ⟨b, o, none⟩ = some u) : (Instr.loadAt 29 (.pointer (some ⟨b, o, none⟩))).run Try.prog w = .ok u w := by go_simp
theorem wpO_grv {E : Type} {R : E → List Value → Prop} {P : Program} {t e : TypeId} {size bytes : Nat} {i : TypeInfo} {z : Value} {w : World} {o : Oper} {a : Act} {K : Act → World → Prop} {Q : Exit → Act → World → Prop} (s x : Operand)
    (ho : o.op = .call { callee := .builtin .append, args := #[s, x], argTypes := #[t, t] }) (ht : P.underlying t = some (.slice e)) (hi : P.info? e = some i) (hz : i.zero = some z)
    (hsize : i.size = size) (hby : i.bytes = bytes) (hzs : z.cells.size = size) (hsz : 0 < size)
    (B : Nat) (l : List E) (sl : Value) (hs : a.eval s = sl) (hg : GrV R e size B l sl w) (v : E) (ds : List Value) (hv : R v ds) (hl : ds.length = size) (h1 : ∀ u ∈ ds, u.oneCell' = true)
    (N : Nat) (hN : N = w.heap.size) (hx : a.eval x = .slice (some ⟨N, 0, none⟩) 1 1) (hbytes : (l.length + 1) * bytes ≤ 140737488355328) (h63 : l.length + 1 ≤ maxLen) (hB : B ≤ w.heap.size)
    (h : ∀ g n cap w', GrV R e size B (l ++ [v]) (.slice (some ⟨g, 0, none⟩) n cap) w' → Below B w w' → K (a.put o.dst (.slice (some ⟨g, 0, none⟩) n cap)) w') : o.wp P a (w.alloc (.cells ds.toArray e)) K Q := by
  subst hN
  have hlt := hg.lt
  obtain ⟨xss, hrow, hol⟩ := hg
  refine wp_append_lies _ s x t ho B e i z size bytes ht hi hz hsize hby hzs hsz sl l.length xss.flatten hs (World.ownsRow.alloc hrow _) ⟨w.heap.size, 0, none⟩ 1 1 ds hx (by rw [hl]; omega) (fun j u hu => by
    rw [Addr.add_mid, Nat.zero_add, World.cell?_alloc_at _ _ _ _ rfl]; simpa using hu) h1 (by omega) h63 hbytes (by simp; omega) (w.heap.size + 1) (by simp) ?_
  intro g cap w' hrow' hgr hat hlt'
  exact h g _ cap w' ⟨xss ++ [ds], by simpa using hrow', hol.snoc hv⟩ (((Below.refl _ _).alloc hB _).grown hgr (by simp; omega) (fun q hq => (hlt q hq).1))
theorem grv_agree {E : Type} {R : E → List Value → Prop} {t : TypeId} {size B : Nat} {l : List E} {sl : Value} {w w' : World} (h : GrV R t size B l sl w) (hb : ∀ b, sl.ownBlock = some b → w'.heap[b]? = w.heap[b]?) : GrV R t size B l sl w' := by
  obtain ⟨xss, ⟨h0, h1⟩, h2⟩ := h
  refine ⟨xss, ⟨h0, ?_⟩, h2⟩
  rcases h1 with h1 | ⟨g, cap, cur, rfl, hg, hh, r⟩
  · exact .inl h1
  · exact .inr ⟨g, cap, cur, rfl, hg, (hb g rfl).trans hh, r⟩
theorem setCells_blk (b c : Nat) (h : c ≠ b) : ∀ (vs : List Value) (o : Nat) (w : World), (w.setCells b o vs).heap[c]? = w.heap[c]?
  | [], o, w => rfl
  | v :: r, o, w => by rw [World.setCells, setCells_blk b c h r (o + 1)]; exact Below.heap_setCell w ⟨b, o, none⟩ v c h
/-- the call's own variables: f's two lists, the result, and g -/
structure FV (w0 : World) (kd : Int) (s1 s2 g1 g2 : Value) (w : World) : Prop where
  x1 : w.cell? ⟨w0.heap.size, 1, none⟩ = some s1
  x2 : w.cell? ⟨w0.heap.size, 2, none⟩ = some s2
  res : w.there (w0.heap.size + 1) 0 3
  row : w.rangeAt (w0.heap.size + 1 + 1) 0 [.int .i64 kd, g1, g2]
  may : w.there (w0.heap.size + 1 + 1) 0 3
  bel : Below w0.heap.size w0 w
  siz : w0.heap.size + 3 ≤ w.heap.size
theorem FV.below {w0 : World} {kd : Int} {s1 s2 g1 g2 : Value} {w w' : World} (h : FV w0 kd s1 s2 g1 g2 w) (hb : Below (w0.heap.size + 3) w w') : FV w0 kd s1 s2 g1 g2 w' :=
  ⟨(hb.cell (p := ⟨w0.heap.size, 1, none⟩) (by show w0.heap.size < _; omega)).trans h.x1, (hb.cell (p := ⟨w0.heap.size, 2, none⟩) (by show w0.heap.size < _; omega)).trans h.x2, there_below h.res hb (by omega), fun j u hu => (hb.cell (p := ⟨w0.heap.size + 1 + 1, 0 + j, none⟩) (by show w0.heap.size + 1 + 1 < _; omega)).trans (h.row j u hu), there_below h.may hb (by omega), h.bel.trans (hb.mono (by omega)), Nat.le_trans h.siz hb.size⟩
theorem FV.put1 {w0 : World} {kd : Int} {s1 s2 g1 g2 : Value} {w : World} (h : FV w0 kd s1 s2 g1 g2 w) (s : Value) : FV w0 kd s1 s2 s g2 (w.setCells (w0.heap.size + 1 + 1) 1 [s]) := by
  have out : ∀ c j, (c ≠ w0.heap.size + 1 + 1 ∨ j ≠ 1) → (w.setCells (w0.heap.size + 1 + 1) 1 [s]).cell? ⟨c, j, none⟩ = w.cell? ⟨c, j, none⟩ := fun c j hc => World.cell?_setCells_out _ _ _ _ _ (fun e _ => by
    have e : c = w0.heap.size + 1 + 1 := e
    show j < 1 ∨ 1 + 1 ≤ j
    omega)
  refine ⟨(out _ _ (.inl (by omega))).trans h.x1, (out _ _ (.inl (by omega))).trans h.x2, World.there_setCells h.res _ _ _, ?_, World.there_setCells h.may _ _ _, below_setCells _ _ _ _ h.bel (by omega), by rw [size_setCells]; exact h.siz⟩
  intro j u hu
  by_cases h6 : j = 1
  · subst h6
    simp at hu
    rw [← hu]
    exact World.cell?_setCell_same _ _ _ (h.row 1 _ rfl)
  · rw [out _ _ (.inr (by omega))]
    refine h.row j u ?_
    have hj : j < 3 := by have := (List.getElem?_eq_some_iff.1 hu).1; simpa using this
    rcases (by omega : j = 0 ∨ j = 2) with rfl | rfl <;> exact hu
theorem FV.put2 {w0 : World} {kd : Int} {s1 s2 g1 g2 : Value} {w : World} (h : FV w0 kd s1 s2 g1 g2 w) (s : Value) : FV w0 kd s1 s2 g1 s (w.setCells (w0.heap.size + 1 + 1) 2 [s]) := by
  have out : ∀ c j, (c ≠ w0.heap.size + 1 + 1 ∨ j ≠ 2) → (w.setCells (w0.heap.size + 1 + 1) 2 [s]).cell? ⟨c, j, none⟩ = w.cell? ⟨c, j, none⟩ := fun c j hc => World.cell?_setCells_out _ _ _ _ _ (fun e _ => by
    have e : c = w0.heap.size + 1 + 1 := e
    show j < 2 ∨ 2 + 1 ≤ j
    omega)
  refine ⟨(out _ _ (.inl (by omega))).trans h.x1, (out _ _ (.inl (by omega))).trans h.x2, World.there_setCells h.res _ _ _, ?_, World.there_setCells h.may _ _ _, below_setCells _ _ _ _ h.bel (by omega), by rw [size_setCells]; exact h.siz⟩
  intro j u hu
  by_cases h6 : j = 2
  · subst h6
    simp at hu
    rw [← hu]
    exact World.cell?_setCell_same _ _ _ (h.row 2 _ rfl)
  · rw [out _ _ (.inr (by omega))]
    refine h.row j u ?_
    have hj : j < 3 := by have := (List.getElem?_eq_some_iff.1 hu).1; simpa using this
    rcases (by omega : j = 0 ∨ j = 1) with rfl | rfl <;> exact hu
/-- these cells are the fault f, whose lists lie between lo and the world's end -/
def FtN (lo : Nat) (w : World) (f : Ft) (cs : List Value) : Prop := ∀ w', w.heap.size ≤ w'.heap.size → (∀ b, lo ≤ b → b < w.heap.size → w'.heap[b]? = w.heap[b]?) → FtC w' f cs
theorem grs_pth {B : Nat} {l : List St} {aj : Option Addr} {nj cj : Nat} {w : World} (h : GrS B l (.slice aj nj cj) w) : nj = l.length ∧ Pth w aj l.length l ∧ l.length ≤ cj ∧ (aj = none → cj = 0) ∧ cj ≤ maxLen ∧ ∀ g off, aj = some ⟨g, off, none⟩ → B ≤ g ∧ g < w.heap.size := by
  have hget := fun {k : Nat} {s : St} (hk : l[k]? = some s) => GrV.get h (fun e cs hc => by rw [hc]; rfl) hk
  obtain ⟨xss, h1, h2⟩ := h
  rcases h1.2 with ⟨e, h0⟩ | ⟨g, cap, cur, e, hg, hh, hc1, hc2, r⟩
  · simp only [Value.slice.injEq] at e
    obtain ⟨rfl, rfl, rfl⟩ := e
    exact ⟨h0.symm, ⟨rfl, .inl h0⟩, by omega, fun _ => rfl, Nat.zero_le _, fun g off e => by cases e⟩
  · have hlt := (h1.lt g (by rw [e]; rfl)).2
    simp only [Value.slice.injEq] at e
    obtain ⟨rfl, rfl, rfl⟩ := e
    refine ⟨rfl, ⟨rfl, ?_⟩, hc1, fun e => (by cases e), hc2, fun g' off e => by cases e; exact ⟨hg, hlt⟩⟩
    by_cases h0 : l.length = 0
    · exact .inl h0
    · refine .inr ⟨g, 0, rfl, hlt, fun k hk => ?_⟩
      obtain ⟨g', cap', cs, e, rfl, hr⟩ := hget (List.getElem?_eq_getElem hk)
      cases e
      refine ⟨_, List.getElem?_eq_getElem hk, ?_⟩
      unfold St3
      rw [Nat.zero_add]
      exact ⟨hr 0 _ rfl, hr 1 _ rfl, hr 2 _ rfl⟩
theorem posAt_agree {w w' : World} {a : Option Addr} {n : Nat} {ps : List (Int × Int)} (h : PosAt w a n ps) (hs : w.heap.size ≤ w'.heap.size) (hb : ∀ g off, a = some ⟨g, off, none⟩ → w'.heap[g]? = w.heap[g]?) : PosAt w' a n ps := by
  refine ⟨h.len, ?_⟩
  rcases h.at_ with h0 | ⟨b, off, ha, hlt, hc⟩
  · exact .inl h0
  · exact .inr ⟨b, off, ha, Nat.lt_of_lt_of_le hlt hs, fun i p hp j u hu => (cell_blk (hb b off ha) _).trans (hc i p hp j u hu)⟩
theorem copyF_end {w0 w : World} {f : Ft} {a1 a2 : Option Addr} {n1 n2 c1 c2 : Nat} (h1 : GrP (w0.heap.size + 3) f.ps (.slice a1 n1 c1) w) (h2 : GrS (w0.heap.size + 3) (f.pt.map pl) (.slice a2 n2 c2) w) (l1 : f.ps.length ≤ 1048576) (l2 : f.pt.length ≤ 1048576) : FtN (w0.heap.size + 3) w (can f) [.int .i64 f.kd, .slice a1 n1 c1, .slice a2 n2 c2] := by
  obtain ⟨rfl⟩ : n1 = f.ps.length := by
    obtain ⟨xss, h1, -⟩ := h1
    rcases h1.2 with ⟨e, h0⟩ | ⟨g, cap, cur, e, -⟩
    · cases e; exact h0.symm
    · cases e; rfl
  obtain ⟨p1, p2, p3, p4, p5⟩ := GrP.pos h1
  obtain ⟨rfl, q1, q2, q3, q4, q5⟩ := grs_pth h2
  have hl : (f.pt.map pl).length ≤ 1048576 := by rw [List.length_map]; exact l2
  intro w' hs hb
  refine ⟨a1, _, c1, a2, _, c2, rfl, posAt_agree p1 hs (fun g off e => ?_), pth_agree q1 hs (fun g off e => ?_), l1, hl, p2, q2, p3, q3, p4, q4⟩
  · have := p5 g off e; exact hb g this.1 this.2
  · have := q5 g off e; exact hb g this.1 this.2
theorem pl_item (nm : ByteArray) (ix : Int) : pl ⟨nm, ix, true⟩ = ⟨⟨#[]⟩, ix, true⟩ := by simp [pl, pN, pI]
theorem pl_name (nm : ByteArray) (ix : Int) : pl ⟨nm, ix, false⟩ = ⟨nm, 0, false⟩ := by simp [pl, pN, pI]
set_option maxHeartbeats 2000000 in
set_option maxRecDepth 6000 in
theorem copyF_ok (f : Ft) (cs : List Value) (w : World) (hf : FtC w f cs) : Calls Try.prog 46 #[.agg cs.toArray] w fun e w' => ∃ ds, e = .returned (.agg ds.toArray) ∧ ds.length = 3 ∧ FtN w.heap.size w' (can f) ds ∧ Below w.heap.size w w' := by
  obtain ⟨ap, np, cp, aq, nq, cq, rfl, p1, p2, l1, l2, -⟩ := hf
  have lp := p1.len
  have lq := p2.len
  obtain ⟨W, eW⟩ : ∃ W, W = ((w.alloc (.cells #[.int .i64 f.kd, .slice ap np cp, .slice aq nq cq] 55)).alloc (.cells #[.int .i64 0, .slice none 0 0, .slice none 0 0] 55)).alloc (.cells #[.int .i64 f.kd, .slice none 0 0, .slice none 0 0] 55) := ⟨_, rfl⟩
  have hV0 : FV w f.kd (.slice ap np cp) (.slice aq nq cq) (.slice none 0 0) (.slice none 0 0) W := by
    rw [eW]
    refine ⟨((World.cell?_alloc_past _ _ _ (by simp; omega)).trans ((World.cell?_alloc_past _ _ _ (by simp)).trans ((World.cell?_alloc_at _ _ _ _ rfl).trans rfl))), ((World.cell?_alloc_past _ _ _ (by simp; omega)).trans ((World.cell?_alloc_past _ _ _ (by simp)).trans ((World.cell?_alloc_at _ _ _ _ rfl).trans rfl))), ?_, ?_, ?_, (((Below.refl _ _).alloc (Nat.le_refl _) _).alloc (by simp) _).alloc (by simp; omega) _, by simp⟩
    · have h := there_new (w := w.alloc (.cells #[.int .i64 f.kd, .slice ap np cp, .slice aq nq cq] 55)) (Z := #[.int .i64 0, .slice none 0 0, .slice none 0 0]) (t := 55) (n := 3) rfl
      exact World.there_alloc (by simpa using h) _
    · intro j u hu
      rw [Nat.zero_add, World.cell?_alloc_at _ _ _ _ (by simp)]
      simpa using hu
    · have h := there_new (w := (w.alloc (.cells #[.int .i64 f.kd, .slice ap np cp, .slice aq nq cq] 55)).alloc (.cells #[.int .i64 0, .slice none 0 0, .slice none 0 0] 55)) (Z := #[.int .i64 f.kd, .slice none 0 0, .slice none 0 0]) (t := 55) (n := 3) rfl
      simpa using h
  have EW := hide eW
  have P1 := hide p1
  have P2' := hide p2
  have LP := hide lp
  have LQ := hide lq
  have CE := hide (fun (w' : World) (a1 a2 : Option Addr) (n1 n2 c1 c2 : Nat) (h1 : GrP (w.heap.size + 3) f.ps (.slice a1 n1 c1) w') (h2 : GrS (w.heap.size + 3) (f.pt.map pl) (.slice a2 n2 c2) w') => copyF_end h1 h2 (by omega) (by omega))
  generalize f.kd = kd at *
  generalize f.ps = ps at *
  generalize f.pt = pt at *
  clear eW p1 p2 lp lq
  go_enter Try.func46, Try.ntmps46
  go_wp2_with fail
  rw [← unhide EW]
  clear EW
  go_loopw [4] (fun vi wr => ∃ (k : Nat) (sl : Value), k ≤ np ∧ vi = .int .i64 k ∧ vl.Hid (FV w kd (.slice ap np cp) (.slice aq nq cq) sl (.slice none 0 0) wr) ∧ vl.Hid (GrP (w.heap.size + 3) (ps.take k) sl wr)) (fun vi _ => np - (intOf vi).toNat)
  case atStart => exact ⟨0, .slice none 0 0, Nat.zero_le _, rfl, hide hV0, hide (by rw [List.take_zero]; exact GrV.nil)⟩
  case round =>
    clear hV0
    obtain ⟨k, sl, hk, rfl, HV, HG⟩ := hrel
    have x1 := (unhide HV).x1
    by_cases hlt : k < np
    · have ki : (k : Int) < (np : Int) := by omega
      obtain ⟨p, hp⟩ : ∃ p, ps[k]? = some p := ⟨_, List.getElem?_eq_getElem (by have := unhide LP; omega)⟩
      rcases (unhide P1).at_ with h0 | ⟨b, off, rfl, hlb, hc⟩
      · omega
      have hr := hc k p hp
      have Hp := hide hp
      have HLn := hide (show (ps.take k).length ≤ 1048576 by have := List.length_take_le k ps; omega)
      have hbel := (unhide HV).bel
      have y0 : wr.cell? ⟨b, off + k * 2, none⟩ = some (.int .i64 p.1) := keepC hbel hlb (hr 0 _ rfl)
      have y1 : wr.cell? ⟨b, off + k * 2 + 1, none⟩ = some (.int .i64 p.2) := keepC hbel hlb (hr 1 _ rfl)
      have hBV := (unhide HV).siz
      clear hc hr hp
      go_wp2_with fail
      obtain ⟨V, rfl⟩ : ∃ V, V = wr := ⟨_, rfl⟩
      have hS0 : Below (w.heap.size + 1 + 1) V { V with drawn := V.drawn + 1 } := (Below.refl _ _).drew
      refine wp_region_noPanic ?_
      refine wp_region_held (S := fun w' => Below (w.heap.size + 1 + 1) V w') mixed ?_
      refine wpAnyH_take (i := 0) (v := ?v1) rfl (by kernel_rfl) (by kernel_rfl) (by kernel_rfl) (fun _ _ _ h => h) (Or.inl ⟨by rfl, ?hy1⟩) hS0 ?_
      case hy1 => (intro w' hw'; have c1 := (hw'.cell (p := ⟨w.heap.size, 1, none⟩) (show w.heap.size < w.heap.size + 1 + 1 by omega)).trans x1; have d0 := (hw'.cell (p := ⟨b, off + k * 2, none⟩) (show b < w.heap.size + 1 + 1 by omega)).trans y0; have d1 := (hw'.cell (p := ⟨b, off + k * 2 + 1, none⟩) (show b < w.heap.size + 1 + 1 by omega)).trans y1; go_simp; try with_reducible rfl)
      simp only [List.getElem_toArray, List.getElem_cons_zero, List.getElem_cons_succ, Act.put, List.setIfInBounds_toArray, List.set_cons_zero, List.set_cons_succ]
      refine wpAnyH_take (i := 2) (v := ?v2) rfl (by kernel_rfl) (by kernel_rfl) (by kernel_rfl) (fun _ _ _ h => h) (Or.inl ⟨by rfl, ?hy2⟩) hS0 ?_
      case hy2 => (intro w' hw'; have c1 := (hw'.cell (p := ⟨w.heap.size, 1, none⟩) (show w.heap.size < w.heap.size + 1 + 1 by omega)).trans x1; have d0 := (hw'.cell (p := ⟨b, off + k * 2, none⟩) (show b < w.heap.size + 1 + 1 by omega)).trans y0; have d1 := (hw'.cell (p := ⟨b, off + k * 2 + 1, none⟩) (show b < w.heap.size + 1 + 1 by omega)).trans y1; go_simp; try with_reducible rfl)
      simp only [List.getElem_toArray, List.getElem_cons_zero, List.getElem_cons_succ, Act.put, List.setIfInBounds_toArray, List.set_cons_zero, List.set_cons_succ]
      refine wpAnyH_take (i := 3) (v := ?v3) rfl (by kernel_rfl) (by kernel_rfl) (by kernel_rfl) (fun _ _ _ h => h) (Or.inl ⟨by rfl, ?hy3⟩) hS0 ?_
      case hy3 => (intro w' hw'; have c1 := (hw'.cell (p := ⟨w.heap.size, 1, none⟩) (show w.heap.size < w.heap.size + 1 + 1 by omega)).trans x1; have d0 := (hw'.cell (p := ⟨b, off + k * 2, none⟩) (show b < w.heap.size + 1 + 1 by omega)).trans y0; have d1 := (hw'.cell (p := ⟨b, off + k * 2 + 1, none⟩) (show b < w.heap.size + 1 + 1 by omega)).trans y1; go_simp; try with_reducible rfl)
      simp only [List.getElem_toArray, List.getElem_cons_zero, List.getElem_cons_succ, Act.put, List.setIfInBounds_toArray, List.set_cons_zero, List.set_cons_succ]
      refine wpAnyH_take (i := 4) (v := ?v4) rfl (by kernel_rfl) (by kernel_rfl) (by kernel_rfl) (fun _ _ _ h => h) (Or.inl ⟨by rfl, ?hy4⟩) hS0 ?_
      case hy4 => (intro w' hw'; have c1 := (hw'.cell (p := ⟨w.heap.size, 1, none⟩) (show w.heap.size < w.heap.size + 1 + 1 by omega)).trans x1; have d0 := (hw'.cell (p := ⟨b, off + k * 2, none⟩) (show b < w.heap.size + 1 + 1 by omega)).trans y0; have d1 := (hw'.cell (p := ⟨b, off + k * 2 + 1, none⟩) (show b < w.heap.size + 1 + 1 by omega)).trans y1; go_simp; try with_reducible rfl)
      simp only [List.getElem_toArray, List.getElem_cons_zero, List.getElem_cons_succ, Act.put, List.setIfInBounds_toArray, List.set_cons_zero, List.set_cons_succ]
      refine wpAnyH_take (i := 5) (v := ?v5) rfl (by kernel_rfl) (by kernel_rfl) (by kernel_rfl) (fun _ _ _ h => h) (Or.inl ⟨by rfl, ?hy5⟩) hS0 ?_
      case hy5 => (intro w' hw'; have c1 := (hw'.cell (p := ⟨w.heap.size, 1, none⟩) (show w.heap.size < w.heap.size + 1 + 1 by omega)).trans x1; have d0 := (hw'.cell (p := ⟨b, off + k * 2, none⟩) (show b < w.heap.size + 1 + 1 by omega)).trans y0; have d1 := (hw'.cell (p := ⟨b, off + k * 2 + 1, none⟩) (show b < w.heap.size + 1 + 1 by omega)).trans y1; go_simp; try with_reducible rfl)
      simp only [List.getElem_toArray, List.getElem_cons_zero, List.getElem_cons_succ, Act.put, List.setIfInBounds_toArray, List.set_cons_zero, List.set_cons_succ]
      refine wpAnyH_take (i := 6) (v := ?v6) rfl (by kernel_rfl) (by kernel_rfl) (by kernel_rfl) (fun _ _ _ h => h) (Or.inl ⟨by rfl, ?hy6⟩) hS0 ?_
      case hy6 => (intro w' hw'; have c1 := (hw'.cell (p := ⟨w.heap.size, 1, none⟩) (show w.heap.size < w.heap.size + 1 + 1 by omega)).trans x1; have d0 := (hw'.cell (p := ⟨b, off + k * 2, none⟩) (show b < w.heap.size + 1 + 1 by omega)).trans y0; have d1 := (hw'.cell (p := ⟨b, off + k * 2 + 1, none⟩) (show b < w.heap.size + 1 + 1 by omega)).trans y1; go_simp; try with_reducible rfl)
      simp only [List.getElem_toArray, List.getElem_cons_zero, List.getElem_cons_succ, Act.put, List.setIfInBounds_toArray, List.set_cons_zero, List.set_cons_succ]
      have hbd := buildP1 (p) ({ V with drawn := V.drawn + 1 } : World)
      have hone : ∀ u ∈ (posC p), u.oneCell' = true := by simp [posC, stC, Value.oneCell']
      have hby : ((ps.take k).length + 1) * 16 ≤ 140737488355328 := by have := unhide HLn; omega
      have hml : (ps.take k).length + 1 ≤ maxLen := by have := unhide HLn; unfold maxLen; omega
      have hG3 : GrV (fun p cs => cs = posC p) 52 2 (w.heap.size + 3) (ps.take k) sl ({ V with drawn := V.drawn + 1 } : World) := unhide HG
      have hMV : w.heap.size + 3 ≤ ({ V with drawn := V.drawn + 1 } : World).heap.size := hBV
      have c7m : V.cell? ⟨w.heap.size + 1 + 1, 1, none⟩ = some sl := (unhide HV).row 1 _ rfl
      obtain ⟨i0, z0', hi0, hz0, hs0, hb0, hc0⟩ := infoPo
      obtain ⟨X, eX⟩ : ∃ X, X = ({ V with drawn := V.drawn + 1 } : World).alloc (.cells (posC p).toArray 52) := ⟨_, rfl⟩
      have hSX : Below (w.heap.size + 1 + 1) V X := by rw [eX]; exact hS0.alloc (show w.heap.size + 1 + 1 ≤ V.heap.size by omega) _
      have bX : Below V.heap.size V X := by rw [eX]; exact (Below.refl V.heap.size V).drew.alloc (Nat.le_refl _) _
      have c7x := keepC bX (show w.heap.size + 1 + 1 < V.heap.size by omega) c7m
      refine rgn.two (i := 1) (j := 7) _ _ rfl rfl (by kernel_rfl) (by rfl) (by rfl) ?_ ?_
      · simp only [List.getElem_toArray, List.getElem_cons_zero, List.getElem_cons_succ, Act.put, List.setIfInBounds_toArray, List.set_cons_zero, List.set_cons_succ]
        refine wpO_load1 53 _ (by rfl) _ sl (by rfl) (load1P _ (w.heap.size + 1 + 1) 1 sl c7m) ?_
        refine ⟨hS0, ?_⟩
        simp only [List.getElem_toArray, List.getElem_cons_zero, List.getElem_cons_succ, Act.put, List.setIfInBounds_toArray, List.set_cons_zero, List.set_cons_succ]
        refine rgn.one (i := 7) _ rfl (by kernel_rfl) (by rfl) ?_
        simp only [List.getElem_toArray, List.getElem_cons_zero, List.getElem_cons_succ, Act.put, List.setIfInBounds_toArray, List.set_cons_zero, List.set_cons_succ]
        refine wpO_buildOne 53 _ (by rfl) (.agg (posC p).toArray) _ (by rfl) hbd ?_
        rw [← eX]
        refine ⟨hSX, ?_⟩
        simp only [List.getElem_toArray, List.getElem_cons_zero, List.getElem_cons_succ, Act.put, List.setIfInBounds_toArray, List.set_cons_zero, List.set_cons_succ]
        refine rgn.one (i := 8) _ rfl (by kernel_rfl) (by rfl) ?_
        simp only [List.getElem_toArray, List.getElem_cons_zero, List.getElem_cons_succ, Act.put, List.setIfInBounds_toArray, List.set_cons_zero, List.set_cons_succ]
        rw [eX]
        refine wpO_grv _ _ (by rfl) Try.underlying53 hi0 hz0 hs0 hb0 hc0 (by omega) (w.heap.size + 3) (ps.take k) sl (by rfl) hG3 (p) (posC p) rfl rfl hone V.heap.size rfl (by rfl) hby hml hMV ?_
        intro g nn cap w4 g4 b4
        have b4' : Below (w.heap.size + 3) V w4 := (Below.refl _ _).drew.trans b4
        have hS4 : Below (w.heap.size + 1 + 1) V w4 := b4'.mono (by omega)
        have V4 := (unhide HV).below (b4'.mono (by omega))
        have e7 : w4.cell? ⟨w.heap.size + 1 + 1, 1, none⟩ = some sl := V4.row 1 _ rfl
        have f7 : w4.frozen? ⟨w.heap.size + 1 + 1, 1, none⟩ = false := (V4.may 1 (by omega)).2
        refine ⟨hS4, ?_⟩
        have hS0 := hS4
        simp only [List.getElem_toArray, List.getElem_cons_zero, List.getElem_cons_succ, Act.put, List.setIfInBounds_toArray, List.set_cons_zero, List.set_cons_succ]
        refine rgn.take (i := 9) _ (.pointer (some ⟨w.heap.size + 1 + 1, 1, none⟩)) rfl (by kernel_rfl) (by kernel_rfl) (by kernel_rfl) (fun _ _ _ h => h) (by rfl) hS0 (fun w' hw' => by go_simp) ?_
        simp only [List.getElem_toArray, List.getElem_cons_zero, List.getElem_cons_succ, Act.put, List.setIfInBounds_toArray, List.set_cons_zero, List.set_cons_succ]
        refine rgn.one (i := 10) _ rfl (by kernel_rfl) (by rfl) ?_
        simp only [List.getElem_toArray, List.getElem_cons_zero, List.getElem_cons_succ, Act.put, List.setIfInBounds_toArray, List.set_cons_zero, List.set_cons_succ]
        have V5 := V4.put1 (.slice (some ⟨g, 0, none⟩) nn cap)
        have G5 := GrV.kept g4 (grown_set w4 (w.heap.size + 1 + 1) 1 (.slice (some ⟨g, 0, none⟩) nn cap)) (.inr (fun e => by have := (g4.lt _ e).1; omega))
        have O5 := True.intro
        have hS5 : Below (w.heap.size + 1 + 1) V (w4.setCells (w.heap.size + 1 + 1) 1 [.slice (some ⟨g, 0, none⟩) nn cap]) := below_setCells _ _ _ _ hS4 (Nat.le_refl _)
        have HF := hide (And.intro V5 (And.intro G5 (And.intro O5 hS5)))
        clear V5 G5 O5 hS5 V4 hS4 hS0 g4 b4 b4' hSX eX
        go_wp2_with fail
        refine ⟨(unhide HF).2.2.2, ?_⟩
        refine wpAnyH_done (by kernel_rfl) ?_ _
        refine NoPanic.normal ?_
        go_wp2
        exact ⟨⟨k + 1, _, by omega, by go_num, hide (unhide HF).1, hide (by rw [List.take_add_one, unhide Hp]; exact (unhide HF).2.1)⟩, by simp only [intOf]; omega⟩
      · simp only [List.getElem_toArray, List.getElem_cons_zero, List.getElem_cons_succ, Act.put, List.setIfInBounds_toArray, List.set_cons_zero, List.set_cons_succ]
        refine wpO_buildOne 53 _ (by rfl) (.agg (posC p).toArray) _ (by rfl) hbd ?_
        rw [← eX]
        refine ⟨hSX, ?_⟩
        simp only [List.getElem_toArray, List.getElem_cons_zero, List.getElem_cons_succ, Act.put, List.setIfInBounds_toArray, List.set_cons_zero, List.set_cons_succ]
        refine rgn.one (i := 1) _ rfl (by kernel_rfl) (by rfl) ?_
        simp only [List.getElem_toArray, List.getElem_cons_zero, List.getElem_cons_succ, Act.put, List.setIfInBounds_toArray, List.set_cons_zero, List.set_cons_succ]
        refine wpO_load1 53 _ (by rfl) _ sl (by rfl) (load1P X (w.heap.size + 1 + 1) 1 sl c7x) ?_
        refine ⟨hSX, ?_⟩
        simp only [List.getElem_toArray, List.getElem_cons_zero, List.getElem_cons_succ, Act.put, List.setIfInBounds_toArray, List.set_cons_zero, List.set_cons_succ]
        refine rgn.one (i := 8) _ rfl (by kernel_rfl) (by rfl) ?_
        simp only [List.getElem_toArray, List.getElem_cons_zero, List.getElem_cons_succ, Act.put, List.setIfInBounds_toArray, List.set_cons_zero, List.set_cons_succ]
        rw [eX]
        refine wpO_grv _ _ (by rfl) Try.underlying53 hi0 hz0 hs0 hb0 hc0 (by omega) (w.heap.size + 3) (ps.take k) sl (by rfl) hG3 (p) (posC p) rfl rfl hone V.heap.size rfl (by rfl) hby hml hMV ?_
        intro g nn cap w4 g4 b4
        have b4' : Below (w.heap.size + 3) V w4 := (Below.refl _ _).drew.trans b4
        have hS4 : Below (w.heap.size + 1 + 1) V w4 := b4'.mono (by omega)
        have V4 := (unhide HV).below (b4'.mono (by omega))
        have e7 : w4.cell? ⟨w.heap.size + 1 + 1, 1, none⟩ = some sl := V4.row 1 _ rfl
        have f7 : w4.frozen? ⟨w.heap.size + 1 + 1, 1, none⟩ = false := (V4.may 1 (by omega)).2
        refine ⟨hS4, ?_⟩
        have hS0 := hS4
        simp only [List.getElem_toArray, List.getElem_cons_zero, List.getElem_cons_succ, Act.put, List.setIfInBounds_toArray, List.set_cons_zero, List.set_cons_succ]
        refine rgn.take (i := 9) _ (.pointer (some ⟨w.heap.size + 1 + 1, 1, none⟩)) rfl (by kernel_rfl) (by kernel_rfl) (by kernel_rfl) (fun _ _ _ h => h) (by rfl) hS0 (fun w' hw' => by go_simp) ?_
        simp only [List.getElem_toArray, List.getElem_cons_zero, List.getElem_cons_succ, Act.put, List.setIfInBounds_toArray, List.set_cons_zero, List.set_cons_succ]
        refine rgn.one (i := 10) _ rfl (by kernel_rfl) (by rfl) ?_
        simp only [List.getElem_toArray, List.getElem_cons_zero, List.getElem_cons_succ, Act.put, List.setIfInBounds_toArray, List.set_cons_zero, List.set_cons_succ]
        have V5 := V4.put1 (.slice (some ⟨g, 0, none⟩) nn cap)
        have G5 := GrV.kept g4 (grown_set w4 (w.heap.size + 1 + 1) 1 (.slice (some ⟨g, 0, none⟩) nn cap)) (.inr (fun e => by have := (g4.lt _ e).1; omega))
        have O5 := True.intro
        have hS5 : Below (w.heap.size + 1 + 1) V (w4.setCells (w.heap.size + 1 + 1) 1 [.slice (some ⟨g, 0, none⟩) nn cap]) := below_setCells _ _ _ _ hS4 (Nat.le_refl _)
        have HF := hide (And.intro V5 (And.intro G5 (And.intro O5 hS5)))
        clear V5 G5 O5 hS5 V4 hS4 hS0 g4 b4 b4' hSX eX
        go_wp2_with fail
        refine ⟨(unhide HF).2.2.2, ?_⟩
        refine wpAnyH_done (by kernel_rfl) ?_ _
        refine NoPanic.normal ?_
        go_wp2
        exact ⟨⟨k + 1, _, by omega, by go_num, hide (unhide HF).1, hide (by rw [List.take_add_one, unhide Hp]; exact (unhide HF).2.1)⟩, by simp only [intOf]; omega⟩
    · obtain rfl : k = np := by omega
      have HG1 := hide (show GrP (w.heap.size + 3) ps sl wr by have := unhide HG; rwa [List.take_of_length_le (Nat.le_of_eq (unhide LP))] at this)
      clear HG
      obtain ⟨M, eM⟩ : ∃ M, M = wr.heap.size := ⟨_, rfl⟩
      have hM0 : w.heap.size + 3 ≤ M := by rw [eM]; exact (unhide HV).siz
      have HO := hide (show ∀ b, sl.ownBlock = some b → b < M by rw [eM]; exact fun b hb => ((unhide HG1).lt b hb).2)
      have hMs : M ≤ wr.heap.size := Nat.le_of_eq eM
      clear eM
      go_wp2_with fail
      clear x1 hlt
      obtain ⟨s1, es⟩ : ∃ s1, s1 = sl := ⟨_, rfl⟩
      rw [← es] at HV HG1 HO
      clear es
      go_loopw [5] (fun vi wr' => ∃ (q : Nat) (sl : Value), q ≤ nq ∧ vi = .int .i64 q ∧ vl.Hid (FV w kd (.slice ap k cp) (.slice aq nq cq) s1 sl wr') ∧ vl.Hid (GrP (w.heap.size + 3) ps s1 wr') ∧ vl.Hid (GrS M ((pt.take q).map pl) sl wr') ∧ M ≤ wr'.heap.size) (fun vi _ => nq - (intOf vi).toNat)
      case atStart => exact ⟨0, .slice none 0 0, Nat.zero_le _, rfl, HV, HG1, hide (by rw [List.take_zero]; exact GrV.nil), hMs⟩
      case round =>
        clear HV HG1 hMs hk
        obtain ⟨q, sl, hq, rfl, HV, HG1, HG, hMs⟩ := hrel
        have x2 := (unhide HV).x2
        by_cases hlt : q < nq
        · have ki : (q : Int) < (nq : Int) := by omega
          obtain ⟨s, hs⟩ : ∃ s, pt[q]? = some s := ⟨_, List.getElem?_eq_getElem (by have := unhide LQ; omega)⟩
          obtain ⟨b, off, rfl, hr⟩ := pth_get (unhide P2') hs
          have hlb : b < w.heap.size := World.block_lt_of_cell? w _ (hr 0 _ rfl)
          obtain ⟨nm, ix, it⟩ := s
          have Hs := hide hs
          have HLn := hide (show ((pt.take q).map pl).length ≤ 1048576 by have := List.length_take_le q pt; rw [List.length_map]; omega)
          have hbel := (unhide HV).bel
          have y0 : wr.cell? ⟨b, off + q * 3, none⟩ = some (.string nm) := keepC hbel hlb (hr 0 _ rfl)
          have y1 : wr.cell? ⟨b, off + q * 3 + 1, none⟩ = some (.int .i64 ix) := keepC hbel hlb (hr 1 _ rfl)
          have y2 : wr.cell? ⟨b, off + q * 3 + 2, none⟩ = some (.bool it) := keepC hbel hlb (hr 2 _ rfl)
          have hBV : M ≤ wr.heap.size := hMs
          clear hr hs
          cases it
          · go_wp2_with fail
            obtain ⟨V, rfl⟩ : ∃ V, V = wr := ⟨_, rfl⟩
            have hS0 : Below (w.heap.size + 1 + 1) V { V with drawn := V.drawn + 1 } := (Below.refl _ _).drew
            refine wp_region_noPanic ?_
            refine wp_region_held (S := fun w' => Below (w.heap.size + 1 + 1) V w') mixed ?_
            refine wpAnyH_take (i := 0) (v := ?v7) rfl (by kernel_rfl) (by kernel_rfl) (by kernel_rfl) (fun _ _ _ h => h) (Or.inl ⟨by rfl, ?hy7⟩) hS0 ?_
            case hy7 => (intro w' hw'; have c1 := (hw'.cell (p := ⟨w.heap.size, 2, none⟩) (show w.heap.size < w.heap.size + 1 + 1 by omega)).trans x2; have d0 := (hw'.cell (p := ⟨b, off + q * 3, none⟩) (show b < w.heap.size + 1 + 1 by omega)).trans y0; have d1 := (hw'.cell (p := ⟨b, off + q * 3 + 1, none⟩) (show b < w.heap.size + 1 + 1 by omega)).trans y1; go_simp; try with_reducible rfl)
            simp only [List.getElem_toArray, List.getElem_cons_zero, List.getElem_cons_succ, Act.put, List.setIfInBounds_toArray, List.set_cons_zero, List.set_cons_succ]
            refine wpAnyH_take (i := 2) (v := ?v8) rfl (by kernel_rfl) (by kernel_rfl) (by kernel_rfl) (fun _ _ _ h => h) (Or.inl ⟨by rfl, ?hy8⟩) hS0 ?_
            case hy8 => (intro w' hw'; have c1 := (hw'.cell (p := ⟨w.heap.size, 2, none⟩) (show w.heap.size < w.heap.size + 1 + 1 by omega)).trans x2; have d0 := (hw'.cell (p := ⟨b, off + q * 3, none⟩) (show b < w.heap.size + 1 + 1 by omega)).trans y0; have d1 := (hw'.cell (p := ⟨b, off + q * 3 + 1, none⟩) (show b < w.heap.size + 1 + 1 by omega)).trans y1; go_simp; try with_reducible rfl)
            simp only [List.getElem_toArray, List.getElem_cons_zero, List.getElem_cons_succ, Act.put, List.setIfInBounds_toArray, List.set_cons_zero, List.set_cons_succ]
            refine wpAnyH_take (i := 3) (v := ?v9) rfl (by kernel_rfl) (by kernel_rfl) (by kernel_rfl) (fun _ _ _ h => h) (Or.inl ⟨by rfl, ?hy9⟩) hS0 ?_
            case hy9 => (intro w' hw'; have c1 := (hw'.cell (p := ⟨w.heap.size, 2, none⟩) (show w.heap.size < w.heap.size + 1 + 1 by omega)).trans x2; have d0 := (hw'.cell (p := ⟨b, off + q * 3, none⟩) (show b < w.heap.size + 1 + 1 by omega)).trans y0; have d1 := (hw'.cell (p := ⟨b, off + q * 3 + 1, none⟩) (show b < w.heap.size + 1 + 1 by omega)).trans y1; go_simp; try with_reducible rfl)
            simp only [List.getElem_toArray, List.getElem_cons_zero, List.getElem_cons_succ, Act.put, List.setIfInBounds_toArray, List.set_cons_zero, List.set_cons_succ]
            refine wpAnyH_take (i := 4) (v := ?v10) rfl (by kernel_rfl) (by kernel_rfl) (by kernel_rfl) (fun _ _ _ h => h) (Or.inl ⟨by rfl, ?hy10⟩) hS0 ?_
            case hy10 => (intro w' hw'; have c1 := (hw'.cell (p := ⟨w.heap.size, 2, none⟩) (show w.heap.size < w.heap.size + 1 + 1 by omega)).trans x2; have d0 := (hw'.cell (p := ⟨b, off + q * 3, none⟩) (show b < w.heap.size + 1 + 1 by omega)).trans y0; have d1 := (hw'.cell (p := ⟨b, off + q * 3 + 1, none⟩) (show b < w.heap.size + 1 + 1 by omega)).trans y1; go_simp; try with_reducible rfl)
            simp only [List.getElem_toArray, List.getElem_cons_zero, List.getElem_cons_succ, Act.put, List.setIfInBounds_toArray, List.set_cons_zero, List.set_cons_succ]
            refine wpAnyH_take (i := 5) (v := ?v11) rfl (by kernel_rfl) (by kernel_rfl) (by kernel_rfl) (fun _ _ _ h => h) (Or.inl ⟨by rfl, ?hy11⟩) hS0 ?_
            case hy11 => (intro w' hw'; have c1 := (hw'.cell (p := ⟨w.heap.size, 2, none⟩) (show w.heap.size < w.heap.size + 1 + 1 by omega)).trans x2; have d0 := (hw'.cell (p := ⟨b, off + q * 3, none⟩) (show b < w.heap.size + 1 + 1 by omega)).trans y0; have d1 := (hw'.cell (p := ⟨b, off + q * 3 + 1, none⟩) (show b < w.heap.size + 1 + 1 by omega)).trans y1; go_simp; try with_reducible rfl)
            simp only [List.getElem_toArray, List.getElem_cons_zero, List.getElem_cons_succ, Act.put, List.setIfInBounds_toArray, List.set_cons_zero, List.set_cons_succ]
            refine wpAnyH_take (i := 6) (v := ?v12) rfl (by kernel_rfl) (by kernel_rfl) (by kernel_rfl) (fun _ _ _ h => h) (Or.inl ⟨by rfl, ?hy12⟩) hS0 ?_
            case hy12 => (intro w' hw'; have c1 := (hw'.cell (p := ⟨w.heap.size, 2, none⟩) (show w.heap.size < w.heap.size + 1 + 1 by omega)).trans x2; have d0 := (hw'.cell (p := ⟨b, off + q * 3, none⟩) (show b < w.heap.size + 1 + 1 by omega)).trans y0; have d1 := (hw'.cell (p := ⟨b, off + q * 3 + 1, none⟩) (show b < w.heap.size + 1 + 1 by omega)).trans y1; go_simp; try with_reducible rfl)
            simp only [List.getElem_toArray, List.getElem_cons_zero, List.getElem_cons_succ, Act.put, List.setIfInBounds_toArray, List.set_cons_zero, List.set_cons_succ]
            refine wpAnyH_take (i := 7) (v := ?v13) rfl (by kernel_rfl) (by kernel_rfl) (by kernel_rfl) (fun _ _ _ h => h) (Or.inl ⟨by rfl, ?hy13⟩) hS0 ?_
            case hy13 => (intro w' hw'; have c1 := (hw'.cell (p := ⟨w.heap.size, 2, none⟩) (show w.heap.size < w.heap.size + 1 + 1 by omega)).trans x2; have d0 := (hw'.cell (p := ⟨b, off + q * 3, none⟩) (show b < w.heap.size + 1 + 1 by omega)).trans y0; have d1 := (hw'.cell (p := ⟨b, off + q * 3 + 1, none⟩) (show b < w.heap.size + 1 + 1 by omega)).trans y1; go_simp; try with_reducible rfl)
            simp only [List.getElem_toArray, List.getElem_cons_zero, List.getElem_cons_succ, Act.put, List.setIfInBounds_toArray, List.set_cons_zero, List.set_cons_succ]
            refine wpAnyH_take (i := 8) (v := ?v14) rfl (by kernel_rfl) (by kernel_rfl) (by kernel_rfl) (fun _ _ _ h => h) (Or.inl ⟨by rfl, ?hy14⟩) hS0 ?_
            case hy14 => (intro w' hw'; have c1 := (hw'.cell (p := ⟨w.heap.size, 2, none⟩) (show w.heap.size < w.heap.size + 1 + 1 by omega)).trans x2; have d0 := (hw'.cell (p := ⟨b, off + q * 3, none⟩) (show b < w.heap.size + 1 + 1 by omega)).trans y0; have d1 := (hw'.cell (p := ⟨b, off + q * 3 + 1, none⟩) (show b < w.heap.size + 1 + 1 by omega)).trans y1; go_simp; try with_reducible rfl)
            simp only [List.getElem_toArray, List.getElem_cons_zero, List.getElem_cons_succ, Act.put, List.setIfInBounds_toArray, List.set_cons_zero, List.set_cons_succ]
            have hbd := buildS1 (⟨nm, 0, false⟩) ({ V with drawn := V.drawn + 1 } : World)
            have hone : ∀ u ∈ (stC ⟨nm, 0, false⟩), u.oneCell' = true := by simp [posC, stC, Value.oneCell']
            have hby : (((pt.take q).map pl).length + 1) * 32 ≤ 140737488355328 := by have := unhide HLn; omega
            have hml : ((pt.take q).map pl).length + 1 ≤ maxLen := by have := unhide HLn; unfold maxLen; omega
            have hG3 : GrV (fun p cs => cs = stC p) 34 3 (M) ((pt.take q).map pl) sl ({ V with drawn := V.drawn + 1 } : World) := unhide HG
            have hMV : M ≤ ({ V with drawn := V.drawn + 1 } : World).heap.size := hBV
            have c7m : V.cell? ⟨w.heap.size + 1 + 1, 2, none⟩ = some sl := (unhide HV).row 2 _ rfl
            obtain ⟨i0, z0', hi0, hz0, hs0, hb0, hc0⟩ := infoSz
            obtain ⟨X, eX⟩ : ∃ X, X = ({ V with drawn := V.drawn + 1 } : World).alloc (.cells (stC ⟨nm, 0, false⟩).toArray 34) := ⟨_, rfl⟩
            have hSX : Below (w.heap.size + 1 + 1) V X := by rw [eX]; exact hS0.alloc (show w.heap.size + 1 + 1 ≤ V.heap.size by omega) _
            have bX : Below V.heap.size V X := by rw [eX]; exact (Below.refl V.heap.size V).drew.alloc (Nat.le_refl _) _
            have c7x := keepC bX (show w.heap.size + 1 + 1 < V.heap.size by omega) c7m
            refine rgn.two (i := 1) (j := 9) _ _ rfl rfl (by kernel_rfl) (by rfl) (by rfl) ?_ ?_
            · simp only [List.getElem_toArray, List.getElem_cons_zero, List.getElem_cons_succ, Act.put, List.setIfInBounds_toArray, List.set_cons_zero, List.set_cons_succ]
              refine wpO_load1 29 _ (by rfl) _ sl (by rfl) (load1S _ (w.heap.size + 1 + 1) 2 sl c7m) ?_
              refine ⟨hS0, ?_⟩
              simp only [List.getElem_toArray, List.getElem_cons_zero, List.getElem_cons_succ, Act.put, List.setIfInBounds_toArray, List.set_cons_zero, List.set_cons_succ]
              refine rgn.one (i := 9) _ rfl (by kernel_rfl) (by rfl) ?_
              simp only [List.getElem_toArray, List.getElem_cons_zero, List.getElem_cons_succ, Act.put, List.setIfInBounds_toArray, List.set_cons_zero, List.set_cons_succ]
              refine wpO_buildOne 29 _ (by rfl) (.agg (stC ⟨nm, 0, false⟩).toArray) _ (by rfl) hbd ?_
              rw [← eX]
              refine ⟨hSX, ?_⟩
              simp only [List.getElem_toArray, List.getElem_cons_zero, List.getElem_cons_succ, Act.put, List.setIfInBounds_toArray, List.set_cons_zero, List.set_cons_succ]
              refine rgn.one (i := 10) _ rfl (by kernel_rfl) (by rfl) ?_
              simp only [List.getElem_toArray, List.getElem_cons_zero, List.getElem_cons_succ, Act.put, List.setIfInBounds_toArray, List.set_cons_zero, List.set_cons_succ]
              rw [eX]
              refine wpO_grv _ _ (by rfl) Try.underlying29 hi0 hz0 hs0 hb0 hc0 (by omega) (M) ((pt.take q).map pl) sl (by rfl) hG3 (⟨nm, 0, false⟩) (stC ⟨nm, 0, false⟩) rfl rfl hone V.heap.size rfl (by rfl) hby hml hMV ?_
              intro g nn cap w4 g4 b4
              have b4' : Below (M) V w4 := (Below.refl _ _).drew.trans b4
              have hS4 : Below (w.heap.size + 1 + 1) V w4 := b4'.mono (by omega)
              have V4 := (unhide HV).below (b4'.mono (by omega))
              have e7 : w4.cell? ⟨w.heap.size + 1 + 1, 2, none⟩ = some sl := V4.row 2 _ rfl
              have f7 : w4.frozen? ⟨w.heap.size + 1 + 1, 2, none⟩ = false := (V4.may 2 (by omega)).2
              refine ⟨hS4, ?_⟩
              have hS0 := hS4
              simp only [List.getElem_toArray, List.getElem_cons_zero, List.getElem_cons_succ, Act.put, List.setIfInBounds_toArray, List.set_cons_zero, List.set_cons_succ]
              refine rgn.take (i := 11) _ (.pointer (some ⟨w.heap.size + 1 + 1, 2, none⟩)) rfl (by kernel_rfl) (by kernel_rfl) (by kernel_rfl) (fun _ _ _ h => h) (by rfl) hS0 (fun w' hw' => by go_simp) ?_
              simp only [List.getElem_toArray, List.getElem_cons_zero, List.getElem_cons_succ, Act.put, List.setIfInBounds_toArray, List.set_cons_zero, List.set_cons_succ]
              refine rgn.one (i := 12) _ rfl (by kernel_rfl) (by rfl) ?_
              simp only [List.getElem_toArray, List.getElem_cons_zero, List.getElem_cons_succ, Act.put, List.setIfInBounds_toArray, List.set_cons_zero, List.set_cons_succ]
              have V5 := V4.put2 (.slice (some ⟨g, 0, none⟩) nn cap)
              have G5 := GrV.kept g4 (grown_set w4 (w.heap.size + 1 + 1) 2 (.slice (some ⟨g, 0, none⟩) nn cap)) (.inr (fun e => by have := (g4.lt _ e).1; omega))
              have b4s := b4'.size
              have O5 := grv_agree (unhide HG1) (fun b hb => (setCell_blk w4 (w.heap.size + 1 + 1) 2 (.slice (some ⟨g, 0, none⟩) nn cap) b (by have := ((unhide HG1).lt b hb).1; omega)).trans (b4'.block b (unhide HO b hb)))
              have hS5 : Below (w.heap.size + 1 + 1) V (w4.setCells (w.heap.size + 1 + 1) 2 [.slice (some ⟨g, 0, none⟩) nn cap]) := below_setCells _ _ _ _ hS4 (Nat.le_refl _)
              have HF := hide (And.intro V5 (And.intro G5 (And.intro O5 hS5)))
              clear V5 G5 O5 hS5 V4 hS4 hS0 g4 b4 b4' hSX eX
              go_wp2_with fail
              refine ⟨(unhide HF).2.2.2, ?_⟩
              refine wpAnyH_done (by kernel_rfl) ?_ _
              refine NoPanic.normal ?_
              go_wp2
              exact ⟨⟨q + 1, _, by omega, by go_num, hide (unhide HF).1, hide (unhide HF).2.2.1, hide (by rw [List.take_add_one, unhide Hs, List.map_append]; exact (unhide HF).2.1), by first | (rw [size_setCells]; exact Nat.le_trans hMV b4s) | (simp; exact Nat.le_trans hMV b4s)⟩, by simp only [intOf]; omega⟩
            · simp only [List.getElem_toArray, List.getElem_cons_zero, List.getElem_cons_succ, Act.put, List.setIfInBounds_toArray, List.set_cons_zero, List.set_cons_succ]
              refine wpO_buildOne 29 _ (by rfl) (.agg (stC ⟨nm, 0, false⟩).toArray) _ (by rfl) hbd ?_
              rw [← eX]
              refine ⟨hSX, ?_⟩
              simp only [List.getElem_toArray, List.getElem_cons_zero, List.getElem_cons_succ, Act.put, List.setIfInBounds_toArray, List.set_cons_zero, List.set_cons_succ]
              refine rgn.one (i := 1) _ rfl (by kernel_rfl) (by rfl) ?_
              simp only [List.getElem_toArray, List.getElem_cons_zero, List.getElem_cons_succ, Act.put, List.setIfInBounds_toArray, List.set_cons_zero, List.set_cons_succ]
              refine wpO_load1 29 _ (by rfl) _ sl (by rfl) (load1S X (w.heap.size + 1 + 1) 2 sl c7x) ?_
              refine ⟨hSX, ?_⟩
              simp only [List.getElem_toArray, List.getElem_cons_zero, List.getElem_cons_succ, Act.put, List.setIfInBounds_toArray, List.set_cons_zero, List.set_cons_succ]
              refine rgn.one (i := 10) _ rfl (by kernel_rfl) (by rfl) ?_
              simp only [List.getElem_toArray, List.getElem_cons_zero, List.getElem_cons_succ, Act.put, List.setIfInBounds_toArray, List.set_cons_zero, List.set_cons_succ]
              rw [eX]
              refine wpO_grv _ _ (by rfl) Try.underlying29 hi0 hz0 hs0 hb0 hc0 (by omega) (M) ((pt.take q).map pl) sl (by rfl) hG3 (⟨nm, 0, false⟩) (stC ⟨nm, 0, false⟩) rfl rfl hone V.heap.size rfl (by rfl) hby hml hMV ?_
              intro g nn cap w4 g4 b4
              have b4' : Below (M) V w4 := (Below.refl _ _).drew.trans b4
              have hS4 : Below (w.heap.size + 1 + 1) V w4 := b4'.mono (by omega)
              have V4 := (unhide HV).below (b4'.mono (by omega))
              have e7 : w4.cell? ⟨w.heap.size + 1 + 1, 2, none⟩ = some sl := V4.row 2 _ rfl
              have f7 : w4.frozen? ⟨w.heap.size + 1 + 1, 2, none⟩ = false := (V4.may 2 (by omega)).2
              refine ⟨hS4, ?_⟩
              have hS0 := hS4
              simp only [List.getElem_toArray, List.getElem_cons_zero, List.getElem_cons_succ, Act.put, List.setIfInBounds_toArray, List.set_cons_zero, List.set_cons_succ]
              refine rgn.take (i := 11) _ (.pointer (some ⟨w.heap.size + 1 + 1, 2, none⟩)) rfl (by kernel_rfl) (by kernel_rfl) (by kernel_rfl) (fun _ _ _ h => h) (by rfl) hS0 (fun w' hw' => by go_simp) ?_
              simp only [List.getElem_toArray, List.getElem_cons_zero, List.getElem_cons_succ, Act.put, List.setIfInBounds_toArray, List.set_cons_zero, List.set_cons_succ]
              refine rgn.one (i := 12) _ rfl (by kernel_rfl) (by rfl) ?_
              simp only [List.getElem_toArray, List.getElem_cons_zero, List.getElem_cons_succ, Act.put, List.setIfInBounds_toArray, List.set_cons_zero, List.set_cons_succ]
              have V5 := V4.put2 (.slice (some ⟨g, 0, none⟩) nn cap)
              have G5 := GrV.kept g4 (grown_set w4 (w.heap.size + 1 + 1) 2 (.slice (some ⟨g, 0, none⟩) nn cap)) (.inr (fun e => by have := (g4.lt _ e).1; omega))
              have b4s := b4'.size
              have O5 := grv_agree (unhide HG1) (fun b hb => (setCell_blk w4 (w.heap.size + 1 + 1) 2 (.slice (some ⟨g, 0, none⟩) nn cap) b (by have := ((unhide HG1).lt b hb).1; omega)).trans (b4'.block b (unhide HO b hb)))
              have hS5 : Below (w.heap.size + 1 + 1) V (w4.setCells (w.heap.size + 1 + 1) 2 [.slice (some ⟨g, 0, none⟩) nn cap]) := below_setCells _ _ _ _ hS4 (Nat.le_refl _)
              have HF := hide (And.intro V5 (And.intro G5 (And.intro O5 hS5)))
              clear V5 G5 O5 hS5 V4 hS4 hS0 g4 b4 b4' hSX eX
              go_wp2_with fail
              refine ⟨(unhide HF).2.2.2, ?_⟩
              refine wpAnyH_done (by kernel_rfl) ?_ _
              refine NoPanic.normal ?_
              go_wp2
              exact ⟨⟨q + 1, _, by omega, by go_num, hide (unhide HF).1, hide (unhide HF).2.2.1, hide (by rw [List.take_add_one, unhide Hs, List.map_append]; exact (unhide HF).2.1), by first | (rw [size_setCells]; exact Nat.le_trans hMV b4s) | (simp; exact Nat.le_trans hMV b4s)⟩, by simp only [intOf]; omega⟩
          · go_wp2_with fail
            obtain ⟨V, rfl⟩ : ∃ V, V = wr := ⟨_, rfl⟩
            have hS0 : Below (w.heap.size + 1 + 1) V { V with drawn := V.drawn + 1 } := (Below.refl _ _).drew
            refine wp_region_noPanic ?_
            refine wp_region_held (S := fun w' => Below (w.heap.size + 1 + 1) V w') mixed ?_
            refine wpAnyH_take (i := 0) (v := ?v15) rfl (by kernel_rfl) (by kernel_rfl) (by kernel_rfl) (fun _ _ _ h => h) (Or.inl ⟨by rfl, ?hy15⟩) hS0 ?_
            case hy15 => (intro w' hw'; have c1 := (hw'.cell (p := ⟨w.heap.size, 2, none⟩) (show w.heap.size < w.heap.size + 1 + 1 by omega)).trans x2; have d0 := (hw'.cell (p := ⟨b, off + q * 3, none⟩) (show b < w.heap.size + 1 + 1 by omega)).trans y0; have d1 := (hw'.cell (p := ⟨b, off + q * 3 + 1, none⟩) (show b < w.heap.size + 1 + 1 by omega)).trans y1; go_simp; try with_reducible rfl)
            simp only [List.getElem_toArray, List.getElem_cons_zero, List.getElem_cons_succ, Act.put, List.setIfInBounds_toArray, List.set_cons_zero, List.set_cons_succ]
            refine wpAnyH_take (i := 2) (v := ?v16) rfl (by kernel_rfl) (by kernel_rfl) (by kernel_rfl) (fun _ _ _ h => h) (Or.inl ⟨by rfl, ?hy16⟩) hS0 ?_
            case hy16 => (intro w' hw'; have c1 := (hw'.cell (p := ⟨w.heap.size, 2, none⟩) (show w.heap.size < w.heap.size + 1 + 1 by omega)).trans x2; have d0 := (hw'.cell (p := ⟨b, off + q * 3, none⟩) (show b < w.heap.size + 1 + 1 by omega)).trans y0; have d1 := (hw'.cell (p := ⟨b, off + q * 3 + 1, none⟩) (show b < w.heap.size + 1 + 1 by omega)).trans y1; go_simp; try with_reducible rfl)
            simp only [List.getElem_toArray, List.getElem_cons_zero, List.getElem_cons_succ, Act.put, List.setIfInBounds_toArray, List.set_cons_zero, List.set_cons_succ]
            refine wpAnyH_take (i := 3) (v := ?v17) rfl (by kernel_rfl) (by kernel_rfl) (by kernel_rfl) (fun _ _ _ h => h) (Or.inl ⟨by rfl, ?hy17⟩) hS0 ?_
            case hy17 => (intro w' hw'; have c1 := (hw'.cell (p := ⟨w.heap.size, 2, none⟩) (show w.heap.size < w.heap.size + 1 + 1 by omega)).trans x2; have d0 := (hw'.cell (p := ⟨b, off + q * 3, none⟩) (show b < w.heap.size + 1 + 1 by omega)).trans y0; have d1 := (hw'.cell (p := ⟨b, off + q * 3 + 1, none⟩) (show b < w.heap.size + 1 + 1 by omega)).trans y1; go_simp; try with_reducible rfl)
            simp only [List.getElem_toArray, List.getElem_cons_zero, List.getElem_cons_succ, Act.put, List.setIfInBounds_toArray, List.set_cons_zero, List.set_cons_succ]
            refine wpAnyH_take (i := 4) (v := ?v18) rfl (by kernel_rfl) (by kernel_rfl) (by kernel_rfl) (fun _ _ _ h => h) (Or.inl ⟨by rfl, ?hy18⟩) hS0 ?_
            case hy18 => (intro w' hw'; have c1 := (hw'.cell (p := ⟨w.heap.size, 2, none⟩) (show w.heap.size < w.heap.size + 1 + 1 by omega)).trans x2; have d0 := (hw'.cell (p := ⟨b, off + q * 3, none⟩) (show b < w.heap.size + 1 + 1 by omega)).trans y0; have d1 := (hw'.cell (p := ⟨b, off + q * 3 + 1, none⟩) (show b < w.heap.size + 1 + 1 by omega)).trans y1; go_simp; try with_reducible rfl)
            simp only [List.getElem_toArray, List.getElem_cons_zero, List.getElem_cons_succ, Act.put, List.setIfInBounds_toArray, List.set_cons_zero, List.set_cons_succ]
            refine wpAnyH_take (i := 5) (v := ?v19) rfl (by kernel_rfl) (by kernel_rfl) (by kernel_rfl) (fun _ _ _ h => h) (Or.inl ⟨by rfl, ?hy19⟩) hS0 ?_
            case hy19 => (intro w' hw'; have c1 := (hw'.cell (p := ⟨w.heap.size, 2, none⟩) (show w.heap.size < w.heap.size + 1 + 1 by omega)).trans x2; have d0 := (hw'.cell (p := ⟨b, off + q * 3, none⟩) (show b < w.heap.size + 1 + 1 by omega)).trans y0; have d1 := (hw'.cell (p := ⟨b, off + q * 3 + 1, none⟩) (show b < w.heap.size + 1 + 1 by omega)).trans y1; go_simp; try with_reducible rfl)
            simp only [List.getElem_toArray, List.getElem_cons_zero, List.getElem_cons_succ, Act.put, List.setIfInBounds_toArray, List.set_cons_zero, List.set_cons_succ]
            refine wpAnyH_take (i := 6) (v := ?v20) rfl (by kernel_rfl) (by kernel_rfl) (by kernel_rfl) (fun _ _ _ h => h) (Or.inl ⟨by rfl, ?hy20⟩) hS0 ?_
            case hy20 => (intro w' hw'; have c1 := (hw'.cell (p := ⟨w.heap.size, 2, none⟩) (show w.heap.size < w.heap.size + 1 + 1 by omega)).trans x2; have d0 := (hw'.cell (p := ⟨b, off + q * 3, none⟩) (show b < w.heap.size + 1 + 1 by omega)).trans y0; have d1 := (hw'.cell (p := ⟨b, off + q * 3 + 1, none⟩) (show b < w.heap.size + 1 + 1 by omega)).trans y1; go_simp; try with_reducible rfl)
            simp only [List.getElem_toArray, List.getElem_cons_zero, List.getElem_cons_succ, Act.put, List.setIfInBounds_toArray, List.set_cons_zero, List.set_cons_succ]
            refine wpAnyH_take (i := 7) (v := ?v21) rfl (by kernel_rfl) (by kernel_rfl) (by kernel_rfl) (fun _ _ _ h => h) (Or.inl ⟨by rfl, ?hy21⟩) hS0 ?_
            case hy21 => (intro w' hw'; have c1 := (hw'.cell (p := ⟨w.heap.size, 2, none⟩) (show w.heap.size < w.heap.size + 1 + 1 by omega)).trans x2; have d0 := (hw'.cell (p := ⟨b, off + q * 3, none⟩) (show b < w.heap.size + 1 + 1 by omega)).trans y0; have d1 := (hw'.cell (p := ⟨b, off + q * 3 + 1, none⟩) (show b < w.heap.size + 1 + 1 by omega)).trans y1; go_simp; try with_reducible rfl)
            simp only [List.getElem_toArray, List.getElem_cons_zero, List.getElem_cons_succ, Act.put, List.setIfInBounds_toArray, List.set_cons_zero, List.set_cons_succ]
            refine wpAnyH_take (i := 8) (v := ?v22) rfl (by kernel_rfl) (by kernel_rfl) (by kernel_rfl) (fun _ _ _ h => h) (Or.inl ⟨by rfl, ?hy22⟩) hS0 ?_
            case hy22 => (intro w' hw'; have c1 := (hw'.cell (p := ⟨w.heap.size, 2, none⟩) (show w.heap.size < w.heap.size + 1 + 1 by omega)).trans x2; have d0 := (hw'.cell (p := ⟨b, off + q * 3, none⟩) (show b < w.heap.size + 1 + 1 by omega)).trans y0; have d1 := (hw'.cell (p := ⟨b, off + q * 3 + 1, none⟩) (show b < w.heap.size + 1 + 1 by omega)).trans y1; go_simp; try with_reducible rfl)
            simp only [List.getElem_toArray, List.getElem_cons_zero, List.getElem_cons_succ, Act.put, List.setIfInBounds_toArray, List.set_cons_zero, List.set_cons_succ]
            have hbd := buildS1 (⟨⟨#[]⟩, ix, true⟩) ({ V with drawn := V.drawn + 1 } : World)
            have hone : ∀ u ∈ (stC ⟨⟨#[]⟩, ix, true⟩), u.oneCell' = true := by simp [posC, stC, Value.oneCell']
            have hby : (((pt.take q).map pl).length + 1) * 32 ≤ 140737488355328 := by have := unhide HLn; omega
            have hml : ((pt.take q).map pl).length + 1 ≤ maxLen := by have := unhide HLn; unfold maxLen; omega
            have hG3 : GrV (fun p cs => cs = stC p) 34 3 (M) ((pt.take q).map pl) sl ({ V with drawn := V.drawn + 1 } : World) := unhide HG
            have hMV : M ≤ ({ V with drawn := V.drawn + 1 } : World).heap.size := hBV
            have c7m : V.cell? ⟨w.heap.size + 1 + 1, 2, none⟩ = some sl := (unhide HV).row 2 _ rfl
            obtain ⟨i0, z0', hi0, hz0, hs0, hb0, hc0⟩ := infoSz
            obtain ⟨X, eX⟩ : ∃ X, X = ({ V with drawn := V.drawn + 1 } : World).alloc (.cells (stC ⟨⟨#[]⟩, ix, true⟩).toArray 34) := ⟨_, rfl⟩
            have hSX : Below (w.heap.size + 1 + 1) V X := by rw [eX]; exact hS0.alloc (show w.heap.size + 1 + 1 ≤ V.heap.size by omega) _
            have bX : Below V.heap.size V X := by rw [eX]; exact (Below.refl V.heap.size V).drew.alloc (Nat.le_refl _) _
            have c7x := keepC bX (show w.heap.size + 1 + 1 < V.heap.size by omega) c7m
            refine rgn.two (i := 1) (j := 9) _ _ rfl rfl (by kernel_rfl) (by rfl) (by rfl) ?_ ?_
            · simp only [List.getElem_toArray, List.getElem_cons_zero, List.getElem_cons_succ, Act.put, List.setIfInBounds_toArray, List.set_cons_zero, List.set_cons_succ]
              refine wpO_load1 29 _ (by rfl) _ sl (by rfl) (load1S _ (w.heap.size + 1 + 1) 2 sl c7m) ?_
              refine ⟨hS0, ?_⟩
              simp only [List.getElem_toArray, List.getElem_cons_zero, List.getElem_cons_succ, Act.put, List.setIfInBounds_toArray, List.set_cons_zero, List.set_cons_succ]
              refine rgn.one (i := 9) _ rfl (by kernel_rfl) (by rfl) ?_
              simp only [List.getElem_toArray, List.getElem_cons_zero, List.getElem_cons_succ, Act.put, List.setIfInBounds_toArray, List.set_cons_zero, List.set_cons_succ]
              refine wpO_buildOne 29 _ (by rfl) (.agg (stC ⟨⟨#[]⟩, ix, true⟩).toArray) _ (by rfl) hbd ?_
              rw [← eX]
              refine ⟨hSX, ?_⟩
              simp only [List.getElem_toArray, List.getElem_cons_zero, List.getElem_cons_succ, Act.put, List.setIfInBounds_toArray, List.set_cons_zero, List.set_cons_succ]
              refine rgn.one (i := 10) _ rfl (by kernel_rfl) (by rfl) ?_
              simp only [List.getElem_toArray, List.getElem_cons_zero, List.getElem_cons_succ, Act.put, List.setIfInBounds_toArray, List.set_cons_zero, List.set_cons_succ]
              rw [eX]
              refine wpO_grv _ _ (by rfl) Try.underlying29 hi0 hz0 hs0 hb0 hc0 (by omega) (M) ((pt.take q).map pl) sl (by rfl) hG3 (⟨⟨#[]⟩, ix, true⟩) (stC ⟨⟨#[]⟩, ix, true⟩) rfl rfl hone V.heap.size rfl (by rfl) hby hml hMV ?_
              intro g nn cap w4 g4 b4
              have b4' : Below (M) V w4 := (Below.refl _ _).drew.trans b4
              have hS4 : Below (w.heap.size + 1 + 1) V w4 := b4'.mono (by omega)
              have V4 := (unhide HV).below (b4'.mono (by omega))
              have e7 : w4.cell? ⟨w.heap.size + 1 + 1, 2, none⟩ = some sl := V4.row 2 _ rfl
              have f7 : w4.frozen? ⟨w.heap.size + 1 + 1, 2, none⟩ = false := (V4.may 2 (by omega)).2
              refine ⟨hS4, ?_⟩
              have hS0 := hS4
              simp only [List.getElem_toArray, List.getElem_cons_zero, List.getElem_cons_succ, Act.put, List.setIfInBounds_toArray, List.set_cons_zero, List.set_cons_succ]
              refine rgn.take (i := 11) _ (.pointer (some ⟨w.heap.size + 1 + 1, 2, none⟩)) rfl (by kernel_rfl) (by kernel_rfl) (by kernel_rfl) (fun _ _ _ h => h) (by rfl) hS0 (fun w' hw' => by go_simp) ?_
              simp only [List.getElem_toArray, List.getElem_cons_zero, List.getElem_cons_succ, Act.put, List.setIfInBounds_toArray, List.set_cons_zero, List.set_cons_succ]
              refine rgn.one (i := 12) _ rfl (by kernel_rfl) (by rfl) ?_
              simp only [List.getElem_toArray, List.getElem_cons_zero, List.getElem_cons_succ, Act.put, List.setIfInBounds_toArray, List.set_cons_zero, List.set_cons_succ]
              have V5 := V4.put2 (.slice (some ⟨g, 0, none⟩) nn cap)
              have G5 := GrV.kept g4 (grown_set w4 (w.heap.size + 1 + 1) 2 (.slice (some ⟨g, 0, none⟩) nn cap)) (.inr (fun e => by have := (g4.lt _ e).1; omega))
              have b4s := b4'.size
              have O5 := grv_agree (unhide HG1) (fun b hb => (setCell_blk w4 (w.heap.size + 1 + 1) 2 (.slice (some ⟨g, 0, none⟩) nn cap) b (by have := ((unhide HG1).lt b hb).1; omega)).trans (b4'.block b (unhide HO b hb)))
              have hS5 : Below (w.heap.size + 1 + 1) V (w4.setCells (w.heap.size + 1 + 1) 2 [.slice (some ⟨g, 0, none⟩) nn cap]) := below_setCells _ _ _ _ hS4 (Nat.le_refl _)
              have HF := hide (And.intro V5 (And.intro G5 (And.intro O5 hS5)))
              clear V5 G5 O5 hS5 V4 hS4 hS0 g4 b4 b4' hSX eX
              go_wp2_with fail
              refine ⟨(unhide HF).2.2.2, ?_⟩
              refine wpAnyH_done (by kernel_rfl) ?_ _
              refine NoPanic.normal ?_
              go_wp2
              exact ⟨⟨q + 1, _, by omega, by go_num, hide (unhide HF).1, hide (unhide HF).2.2.1, hide (by rw [List.take_add_one, unhide Hs, List.map_append]; exact (unhide HF).2.1), by first | (rw [size_setCells]; exact Nat.le_trans hMV b4s) | (simp; exact Nat.le_trans hMV b4s)⟩, by simp only [intOf]; omega⟩
            · simp only [List.getElem_toArray, List.getElem_cons_zero, List.getElem_cons_succ, Act.put, List.setIfInBounds_toArray, List.set_cons_zero, List.set_cons_succ]
              refine wpO_buildOne 29 _ (by rfl) (.agg (stC ⟨⟨#[]⟩, ix, true⟩).toArray) _ (by rfl) hbd ?_
              rw [← eX]
              refine ⟨hSX, ?_⟩
              simp only [List.getElem_toArray, List.getElem_cons_zero, List.getElem_cons_succ, Act.put, List.setIfInBounds_toArray, List.set_cons_zero, List.set_cons_succ]
              refine rgn.one (i := 1) _ rfl (by kernel_rfl) (by rfl) ?_
              simp only [List.getElem_toArray, List.getElem_cons_zero, List.getElem_cons_succ, Act.put, List.setIfInBounds_toArray, List.set_cons_zero, List.set_cons_succ]
              refine wpO_load1 29 _ (by rfl) _ sl (by rfl) (load1S X (w.heap.size + 1 + 1) 2 sl c7x) ?_
              refine ⟨hSX, ?_⟩
              simp only [List.getElem_toArray, List.getElem_cons_zero, List.getElem_cons_succ, Act.put, List.setIfInBounds_toArray, List.set_cons_zero, List.set_cons_succ]
              refine rgn.one (i := 10) _ rfl (by kernel_rfl) (by rfl) ?_
              simp only [List.getElem_toArray, List.getElem_cons_zero, List.getElem_cons_succ, Act.put, List.setIfInBounds_toArray, List.set_cons_zero, List.set_cons_succ]
              rw [eX]
              refine wpO_grv _ _ (by rfl) Try.underlying29 hi0 hz0 hs0 hb0 hc0 (by omega) (M) ((pt.take q).map pl) sl (by rfl) hG3 (⟨⟨#[]⟩, ix, true⟩) (stC ⟨⟨#[]⟩, ix, true⟩) rfl rfl hone V.heap.size rfl (by rfl) hby hml hMV ?_
              intro g nn cap w4 g4 b4
              have b4' : Below (M) V w4 := (Below.refl _ _).drew.trans b4
              have hS4 : Below (w.heap.size + 1 + 1) V w4 := b4'.mono (by omega)
              have V4 := (unhide HV).below (b4'.mono (by omega))
              have e7 : w4.cell? ⟨w.heap.size + 1 + 1, 2, none⟩ = some sl := V4.row 2 _ rfl
              have f7 : w4.frozen? ⟨w.heap.size + 1 + 1, 2, none⟩ = false := (V4.may 2 (by omega)).2
              refine ⟨hS4, ?_⟩
              have hS0 := hS4
              simp only [List.getElem_toArray, List.getElem_cons_zero, List.getElem_cons_succ, Act.put, List.setIfInBounds_toArray, List.set_cons_zero, List.set_cons_succ]
              refine rgn.take (i := 11) _ (.pointer (some ⟨w.heap.size + 1 + 1, 2, none⟩)) rfl (by kernel_rfl) (by kernel_rfl) (by kernel_rfl) (fun _ _ _ h => h) (by rfl) hS0 (fun w' hw' => by go_simp) ?_
              simp only [List.getElem_toArray, List.getElem_cons_zero, List.getElem_cons_succ, Act.put, List.setIfInBounds_toArray, List.set_cons_zero, List.set_cons_succ]
              refine rgn.one (i := 12) _ rfl (by kernel_rfl) (by rfl) ?_
              simp only [List.getElem_toArray, List.getElem_cons_zero, List.getElem_cons_succ, Act.put, List.setIfInBounds_toArray, List.set_cons_zero, List.set_cons_succ]
              have V5 := V4.put2 (.slice (some ⟨g, 0, none⟩) nn cap)
              have G5 := GrV.kept g4 (grown_set w4 (w.heap.size + 1 + 1) 2 (.slice (some ⟨g, 0, none⟩) nn cap)) (.inr (fun e => by have := (g4.lt _ e).1; omega))
              have b4s := b4'.size
              have O5 := grv_agree (unhide HG1) (fun b hb => (setCell_blk w4 (w.heap.size + 1 + 1) 2 (.slice (some ⟨g, 0, none⟩) nn cap) b (by have := ((unhide HG1).lt b hb).1; omega)).trans (b4'.block b (unhide HO b hb)))
              have hS5 : Below (w.heap.size + 1 + 1) V (w4.setCells (w.heap.size + 1 + 1) 2 [.slice (some ⟨g, 0, none⟩) nn cap]) := below_setCells _ _ _ _ hS4 (Nat.le_refl _)
              have HF := hide (And.intro V5 (And.intro G5 (And.intro O5 hS5)))
              clear V5 G5 O5 hS5 V4 hS4 hS0 g4 b4 b4' hSX eX
              go_wp2_with fail
              refine ⟨(unhide HF).2.2.2, ?_⟩
              refine wpAnyH_done (by kernel_rfl) ?_ _
              refine NoPanic.normal ?_
              go_wp2
              exact ⟨⟨q + 1, _, by omega, by go_num, hide (unhide HF).1, hide (unhide HF).2.2.1, hide (by rw [List.take_add_one, unhide Hs, List.map_append]; exact (unhide HF).2.1), by first | (rw [size_setCells]; exact Nat.le_trans hMV b4s) | (simp; exact Nat.le_trans hMV b4s)⟩, by simp only [intOf]; omega⟩
        · obtain rfl : q = nq := by omega
          have HG2 := hide (show GrS M (pt.map pl) sl wr by have := unhide HG; rwa [List.take_of_length_le (Nat.le_of_eq (unhide LQ))] at this)
          clear HG
          obtain ⟨a1, n1, c1, rfl⟩ : ∃ a1 n1 c1, s1 = .slice a1 n1 c1 := by obtain ⟨a, c, e⟩ := grv_form (unhide HG1); exact ⟨_, _, _, e⟩
          obtain ⟨a2, n2, c2, rfl⟩ : ∃ a2 n2 c2, sl = .slice a2 n2 c2 := by obtain ⟨a, c, e⟩ := grv_form (unhide HG2); exact ⟨_, _, _, e⟩
          have hrow := (unhide HV).row
          have HN := hide (unhide CE wr a1 a2 n1 n2 c1 c2 (unhide HG1) ((unhide HG2).older hM0))
          obtain ⟨L, eL⟩ : ∃ L, L = [Value.int .i64 kd, .slice a1 n1 c1, .slice a2 n2 c2] := ⟨_, rfl⟩
          rw [← eL] at hrow HN
          have ho8 : L.toArray.all (·.oneCell') = true := by rw [eL]; simp [Value.oneCell']
          have iL : (Try.prog.info? 55).map (·.size) = some L.length := by rw [eL]; kernel_rfl
          have iL' : (Try.prog.info? 55).map (·.size) = some L.toArray.size := by rw [eL]; kernel_rfl
          have hT : wr.there (w.heap.size + 1) 0 L.toArray.size := by rw [eL]; exact (unhide HV).res
          have A := hide (And.intro hrow (And.intro iL (And.intro iL' (And.intro hT eL))))
          clear hrow iL iL' hT eL
          go_wp2_with (first
            | refine wpList_load_mid (by rfl) 55 _ (by rfl) (w.heap.size + 1 + 1) 0 (by rfl) L _ (unhide A).1 Try.underlying55 (by rfl) (unhide A).2.1 ?_
            | refine wpList_store_mid (by rfl) 55 _ _ (by rfl) (w.heap.size + 1) 0 L.toArray (by rfl) (by rfl) (unhide A).2.2.2.1 (unhide A).2.2.1 ho8 ?_)
          obtain ⟨hrow, iL, iL', hT, eL⟩ := unhide A
          have hr9 : (wr.setCells (w.heap.size + 1) 0 L).rangeAt (w.heap.size + 1) 0 L := World.rangeAt_setCells_same _ _ _ _ hT
          refine bodyPost_ret (rgn.result_row rfl _ _ (w.heap.size + 1) 0 L _ rfl hr9 Try.underlying55 rfl iL) rfl ?_
          refine ⟨L, rfl, by rw [eL]; rfl, ?_, below_setCells _ _ _ _ (unhide HV).bel (Nat.le_succ _)⟩
          intro w' hs hb
          refine unhide HN w' (by rw [size_setCells] at hs; exact hs) (fun b h1 h2 => ?_)
          exact (hb b (Nat.le_trans (by omega) h1) (by rw [size_setCells]; exact h2)).trans (setCells_blk _ _ (by omega) _ _ _)
end Go.Proofs.Ythpcpminikmcbaa.og
namespace Go.Proofs.Ythpcpminikmcbaa.og
open Go.ChangeShapes Go.WideShapes Go.ChangeAt Go.RowKit Go.Shelf
open vl hiding cB cFl cS cF cI cK cIt
open stp (St Pth St3 c3 c3_lt c3_gt c3_eq lexS pN pI)
set_option linter.unusedVariables false
set_option linter.unusedSimpArgs false
theorem FtsR.take {w : World} {a : Option Addr} {n c : Nat} {R : List Ft} (h : FtsR w a n c R) {k : Nat} (hk : k ≤ n) : FtsR w a k c (R.take k) := by
  refine ⟨by rw [List.length_take, h.len]; omega, Nat.le_trans hk h.le, h.nil, ?_⟩
  rcases h.at_ with h0 | ⟨b, off, ha, hlt, hc⟩
  · exact .inl (by omega)
  · refine .inr ⟨b, off, ha, hlt, fun i f hf => hc i f ?_⟩
    rw [List.getElem?_take] at hf
    split at hf
    · exact hf
    · cases hf
theorem FtsR.drop {w : World} {b off n c : Nat} {R : List Ft} (h : FtsR w (some ⟨b, off, none⟩) n c R) {k : Nat} (hk : k ≤ n) : FtsR w (some ⟨b, off + k * 3, none⟩) (n - k) (c - k) (R.drop k) := by
  refine ⟨by rw [List.length_drop, h.len], by have := h.le; omega, fun e => (by cases e), ?_⟩
  rcases h.at_ with h0 | ⟨b', off', ha, hlt, hc⟩
  · exact .inl (by omega)
  · cases ha
    refine .inr ⟨b, off + k * 3, rfl, hlt, fun i f hf => ?_⟩
    rw [List.getElem?_drop] at hf
    obtain ⟨cs, h1, h2⟩ := hc (k + i) f hf
    exact ⟨cs, by rw [show off + k * 3 + i * 3 = off + (k + i) * 3 by omega]; exact h1, h2⟩
abbrev GrF (V : World) (B : Nat) (l : List Ft) (sl : Value) (w : World) : Prop := GrV (fun f cs => FtC V f cs) 55 3 B l sl w
theorem ftC_len {w : World} {f : Ft} {cs : List Value} (h : FtC w f cs) : cs.length = 3 := by obtain ⟨_, _, _, _, _, _, rfl, -⟩ := h; rfl
theorem ftC_one {w : World} {f : Ft} {cs : List Value} (h : FtC w f cs) : ∀ u ∈ cs, u.oneCell' = true := by obtain ⟨_, _, _, _, _, _, rfl, -⟩ := h; simp [Value.oneCell']
theorem buildF1 {V : World} {f : Ft} {cs : List Value} (h : FtC V f cs) (w : World) : (Instr.buildSlice 50 1 #[(0, .agg cs.toArray)]).run Try.prog w = .ok (.slice (some ⟨w.heap.size, 0, none⟩) 1 1) (w.alloc (.cells cs.toArray 55)) := by
  obtain ⟨_, _, _, _, _, _, rfl, -⟩ := h
  go_simp
theorem grf_read {V w : World} {B : Nat} {l : List Ft} {aj : Option Addr} {nj cj : Nat} (h : GrF V B l (.slice aj nj cj) w) (hb : Gb V w) : FtsR w aj nj cj l := by
  have hget := fun {k : Nat} {f : Ft} (hk : l[k]? = some f) => GrV.get h (fun e cs hc => ftC_len hc) hk
  obtain ⟨xss, h1, h2⟩ := h
  rcases h1.2 with ⟨e, h0⟩ | ⟨g, cap, cur, e, hg, hh, hc1, hc2, r⟩
  · cases e
    exact ⟨h0, Nat.le_refl _, fun _ => rfl, .inl rfl⟩
  · have hlt := (h1.lt g (by rw [e]; rfl)).2
    cases e
    refine ⟨rfl, hc1, fun e => (by cases e), ?_⟩
    by_cases h0 : l.length = 0
    · exact .inl h0
    · refine .inr ⟨g, 0, rfl, hlt, fun k f hk => ?_⟩
      obtain ⟨g', cap', cs, e, hc, hr⟩ := hget hk
      cases e
      exact ⟨cs, by rw [Nat.zero_add]; exact hr, hc.below hb⟩
theorem wp_ft {V w : World} {B : Nat} {l : List Ft} {sl : Value} {ops : Array Oper} {rest : List Oper} {o : Oper} {a : Act} {Q : Exit → Act → World → Prop} (hG : GrF V B l sl w) (hVB : V.heap.size ≤ B) (hBw : B ≤ w.heap.size) (hB : Gb V w) (hgd : o.guard = none) (s x : Operand)
    (ho : o.op = .call { callee := .builtin .append, args := #[s, x], argTypes := #[50, 50] }) (hs : a.eval s = sl) (f : Ft) (cs : List Value) (hf : FtC V f cs) (N : Nat) (hN : N = w.heap.size) (hx : a.eval x = .slice (some ⟨N, 0, none⟩) 1 1) (hn : l.length + 1 ≤ 1048577)
    (h : ∀ g n cap w', GrF V B (l ++ [f]) (.slice (some ⟨g, 0, none⟩) n cap) w' → Gb V w' → w.heap.size ≤ w'.heap.size → wpList Try.prog ops Q rest (a.put o.dst (.slice (some ⟨g, 0, none⟩) n cap)) w') : wpList Try.prog ops Q (o :: rest) a (w.alloc (.cells cs.toArray 55)) := by
  obtain ⟨i, z, hi, hz, hsz, hb, hc⟩ := infoF
  have hlt := hG.lt
  refine wp_grv hgd s x ho Try.underlying50 hi hz hsz hb hc (by omega) B l sl hs hG f cs hf (ftC_len hf) (ftC_one hf) N hN hx (by omega) (by unfold maxLen; omega) hBw ?_
  intro g cap w' hg hgr hat hlt'
  exact h g _ cap w' hg (Below.trans hB (((Below.refl _ _).alloc (by have := hB.size; exact this) _).grown hgr (by simp; have := hB.size; omega) (fun q hq => by have := (hlt q hq).1; omega))) (by have := hgr.size; simp at this; omega)
/-- the loop that lays two lists into one -/
structure MgI (V : World) (B : Nat) (A C : List Ft) (i j : Nat) (sl : Value) (w : World) : Prop where
  gr : ∃ O, GrF V B O sl w ∧ O ++ mg (A.drop i) (C.drop j) = mg A C
  bel : Gb V w
  siz : B ≤ w.heap.size
theorem MgI.len {V : World} {B : Nat} {A C : List Ft} {i j : Nat} {sl : Value} {w : World} (h : MgI V B A C i j sl w) {O : List Ft} (hO : O ++ mg (A.drop i) (C.drop j) = mg A C) : O.length ≤ A.length + C.length := by
  have := congrArg List.length hO
  rw [List.length_append] at this
  have h2 := mg_len A C
  omega
theorem drop_cons {α : Type} {l : List α} {k : Nat} {x : α} (h : l[k]? = some x) : l.drop k = x :: l.drop (k + 1) := by
  obtain ⟨hk, e⟩ := List.getElem?_eq_some_iff.1 h
  rw [List.drop_eq_getElem_cons hk, e]
theorem mgA {A C O : List Ft} {i j : Nat} {f : Ft} (h : O ++ mg (A.drop i) (C.drop j) = mg A C) (hf : A[i]? = some f) (hj : C.length ≤ j ∨ ∃ g, C[j]? = some g ∧ cF f g < 0) : (O ++ [f]) ++ mg (A.drop (i + 1)) (C.drop j) = mg A C := by
  rw [← h, drop_cons hf, List.append_assoc]
  rcases hj with hj | ⟨g, hg, hlt⟩
  · rw [List.drop_eq_nil_of_le hj, mg_nil', mg_nil']; rfl
  · rw [drop_cons hg, mg_lt hlt]; rfl
theorem mgE {A C O : List Ft} {i j : Nat} {f g : Ft} (h : O ++ mg (A.drop i) (C.drop j) = mg A C) (hf : A[i]? = some f) (hg : C[j]? = some g) (he : cF f g = 0) : (O ++ [f]) ++ mg (A.drop (i + 1)) (C.drop (j + 1)) = mg A C := by
  rw [← h, drop_cons hf, drop_cons hg, mg_eq he, List.append_assoc]; rfl
theorem mgC {A C O : List Ft} {i j : Nat} {g : Ft} (h : O ++ mg (A.drop i) (C.drop j) = mg A C) (hg : C[j]? = some g) (hi : A.length ≤ i ∨ ∃ f, A[i]? = some f ∧ 0 < cF f g) : (O ++ [g]) ++ mg (A.drop i) (C.drop (j + 1)) = mg A C := by
  rw [← h, drop_cons hg, List.append_assoc]
  rcases hi with hi | ⟨f, hf, hgt⟩
  · rw [List.drop_eq_nil_of_le hi, mg_nil, mg_nil]; rfl
  · rw [drop_cons hf, mg_gt hgt]; rfl
def OdP (L : List Ft) (w : World) (e : Ending) (w' : World) : Prop := ∃ aj nj cj R, e = .returned (.slice aj nj cj) ∧ Od L R ∧ FtsR w' aj nj cj R ∧ Below w.heap.size w w'
theorem infoF3 : (Try.prog.info? 55).map (·.size) = some 3 := by kernel_rfl
set_option maxHeartbeats 1000000 in
set_option maxRecDepth 6000 in
theorem ordered_ok : ∀ (m : Nat) (L : List Ft) (a : Option Addr) (n c : Nat) (w : World), n ≤ m → FtsR w a n c L → Cn L → n ≤ 1048576 → Calls Try.prog 47 #[.slice a n c] w (OdP L w) := by
  intro m
  induction m with
  | zero =>
    intro L a n c w hm hL hc hn
    obtain rfl : n = 0 := by omega
    have hl : L.length < 2 := by rw [hL.len]; omega
    have H := hide (And.intro hL hl)
    clear hL hc hl
    go_enter Try.func47, Try.ntmps47
    go_wp2
    go_ret
    exact ⟨_, _, _, L, rfl, Od.self (unhide H).2, (unhide H).1, Below.refl _ _⟩
  | succ m ih =>
    intro L a n c w hm hL hc hn
    by_cases h2 : n < 2
    · have hl : L.length < 2 := by rw [hL.len]; omega
      have H := hide (And.intro hL hl)
      have ki : (n : Int) < 2 := by omega
      clear hL hc hl ih
      go_enter Try.func47, Try.ntmps47
      go_wp2
      go_ret
      exact ⟨_, _, _, L, rfl, Od.self (unhide H).2, (unhide H).1, Below.refl _ _⟩
    · rcases hL.at_ with h0 | ⟨b, off, rfl, hlb, -⟩
      · omega
      obtain ⟨h, eh⟩ : ∃ h, h = n / 2 := ⟨_, rfl⟩
      have h1 : 1 ≤ h := by omega
      have hh : h < n := by omega
      have hcap := hL.le
      have I1 := hide (ih (L.take h) (some ⟨b, off, none⟩) h c w (by omega) (hL.take (by omega)) (fun f hf => hc f (List.mem_of_mem_take hf)) (by omega))
      have I2 := hide (fun w1 (b1 : Below w.heap.size w w1) => ih (L.drop h) (some ⟨b, off + h * 3, none⟩) (n - h) (c - h) w1 (by omega) ((hL.drop (by omega)).below b1) (fun f hf => hc f (List.mem_of_mem_drop hf)) (by omega))
      have HC := hide hc
      have HL := hide hL.len
      have q1 : Int.tdiv (n : Int) 2 = (h : Int) := by rw [Int.tdiv_eq_ediv_of_nonneg (by omega)]; omega
      have ki : ¬ (n : Int) < 2 := by omega
      have hne : ¬ c = h := by omega
      have k1 : (h : Int) ≤ (c : Int) := by omega
      have k2 : (h : Int) ≤ (n : Int) := by omega
      have k3 : ((n - h : Nat) : Int) = (n : Int) - (h : Int) := by omega
      clear hL hc ih eh
      go_enter Try.func47, Try.ntmps47
      go_wp2_with fail
      refine (unhide I1).mono ?_
      rintro e w1 ⟨a1, n1, c1, A, rfl, dA, rA, b1⟩
      have HA := hide (And.intro dA rA)
      clear I1 dA rA
      go_wp2_with fail
      refine (unhide I2 w1 b1).mono ?_
      rintro e w2 ⟨a2, n2, c2, C, rfl, dC, rC, b2⟩
      clear I2
      obtain ⟨dA, rA⟩ := unhide HA
      have lA := rA.len
      have lC := rC.len
      have hdA := dA.len
      have hdC := dC.len
      rw [List.length_take, unhide HL] at hdA
      rw [List.length_drop, unhide HL] at hdC
      have HOd := hide (Od.mg (unhide HC) dA dC)
      have HA2 := hide (rA.below b2)
      have HC2 := hide rC
      have HB2 := hide (b1.trans (b2.mono b1.size))
      have n12 : n1 + n2 ≤ 1048576 := by omega
      have LA := hide lA
      have LC := hide lC
      obtain ⟨i0, z0, hi0, hz0, hs0, hb0, hc0⟩ := infoF
      obtain ⟨X, hmk, hrow, hgr⟩ := run_make_own w2 w2.heap.size 50 55 i0 z0 3 Try.underlying50 hi0 hz0 hs0 .i64 .i64 n (by rw [hb0]; omega) (by unfold maxLen; omega) (Nat.le_refl _)
      have BX : Below w2.heap.size w2 X := (Below.refl _ _).grown hgr (Nat.le_refl _) (fun k hk => by cases hk)
      have M0 := hide (show MgI w2 w2.heap.size A C 0 0 (.slice (some ⟨w2.heap.size, 0, none⟩) 0 n) X from ⟨⟨[], ⟨[], hrow, trivial⟩, rfl⟩, BX, BX.size⟩)
      clear HA dA rA dC rC lA lC hdA hdC b1 b2 hi0 hz0 hs0 hb0 hc0 hrow hgr BX HC HL q1 k1 k2 k3 hne hcap
      go_wp2_with fail
      clear hmk
      go_loopw [6, 7, 8] (fun v6 vi vj wr => ∃ (i j : Nat) (sl : Value), i ≤ n1 ∧ j ≤ n2 ∧ v6 = sl ∧ vi = .int .i64 i ∧ vj = .int .i64 j ∧ vl.Hid (MgI w2 w2.heap.size A C i j sl wr)) (fun _ vi vj _ => (n1 - (intOf vi).toNat) + (n2 - (intOf vj).toNat))
      case atStart => exact ⟨0, 0, _, Nat.zero_le _, Nat.zero_le _, rfl, rfl, rfl, M0⟩
      case round =>
        clear M0
        obtain ⟨i, j, sl, hi, hj, rfl, rfl, rfl, HM⟩ := hrel
        obtain ⟨O, hG, hO⟩ := (unhide HM).gr
        have HLn := hide (show O.length ≤ 1048576 by have := (unhide HM).len hO; have := unhide LA; have := unhide LC; omega)
        have HG := hide hG
        have HO := hide hO
        have HB := hide (unhide HM).bel
        have HS := hide (unhide HM).siz
        clear hG hO
        by_cases ltA : i < n1
        · have ki : (i : Int) < (n1 : Int) := by omega
          have ki' : ¬ (n1 : Int) ≤ (i : Int) := by omega
          obtain ⟨p, off, f, cs, rfl, hp, eA, rA, cA⟩ := (unhide HA2).get (k := i) ltA
          by_cases ltC : j < n2
          · have kj : (j : Int) < (n2 : Int) := by omega
            obtain ⟨p2, off2, g, ds, rfl, hp2, eC, rC, cC⟩ := (unhide HC2).get (k := j) ltC
            have CF := hide (fun W (hW : Below w2.heap.size w2 W) => rcmpF_ok f g cs ds W (cA.below hW) (cC.below hW))
            obtain ⟨ap, np, cp, aq, nq, cq, rfl, hrA⟩ := cA
            obtain ⟨bp, mp, dp, bq, mq, dq, rfl, hrC⟩ := cC
            have cA : FtC w2 f [.int .i64 f.kd, .slice ap np cp, .slice aq nq cq] := ⟨ap, np, cp, aq, nq, cq, rfl, hrA⟩
            have cC : FtC w2 g [.int .i64 g.kd, .slice bp mp dp, .slice bq mq dq] := ⟨bp, mp, dp, bq, mq, dq, rfl, hrC⟩
            clear hrA hrC
            have hbw := unhide HB
            have x0 : wr.cell? ⟨p, off + i * 3, none⟩ = some (.int .i64 f.kd) := (Below.cell hbw (p := ⟨p, off + i * 3, none⟩) hp).trans (rA 0 _ rfl)
            have x1 : wr.cell? ⟨p, off + i * 3 + 1, none⟩ = some (.slice ap np cp) := (Below.cell hbw (p := ⟨p, off + i * 3 + 1, none⟩) hp).trans (rA 1 _ rfl)
            have x2 : wr.cell? ⟨p, off + i * 3 + 2, none⟩ = some (.slice aq nq cq) := (Below.cell hbw (p := ⟨p, off + i * 3 + 2, none⟩) hp).trans (rA 2 _ rfl)
            have y0 : wr.cell? ⟨p2, off2 + j * 3, none⟩ = some (.int .i64 g.kd) := (Below.cell hbw (p := ⟨p2, off2 + j * 3, none⟩) hp2).trans (rC 0 _ rfl)
            have y1 : wr.cell? ⟨p2, off2 + j * 3 + 1, none⟩ = some (.slice bp mp dp) := (Below.cell hbw (p := ⟨p2, off2 + j * 3 + 1, none⟩) hp2).trans (rC 1 _ rfl)
            have y2 : wr.cell? ⟨p2, off2 + j * 3 + 2, none⟩ = some (.slice bq mq dq) := (Below.cell hbw (p := ⟨p2, off2 + j * 3 + 2, none⟩) hp2).trans (rC 2 _ rfl)
            have RA0 := hide rA
            have RC0 := hide rC
            have CA0 := hide cA
            have CC0 := hide cC
            have EA := hide eA
            have EC := hide eC
            have hpw : p < wr.heap.size := Nat.lt_of_lt_of_le hp (Below.size hbw)
            have hpw2 : p2 < wr.heap.size := Nat.lt_of_lt_of_le hp2 (Below.size hbw)
            have HB0 := hide hbw
            clear rA rC cA cC eA eC hbw
            obtain ⟨fk, efk⟩ : ∃ fk, fk = f.kd := ⟨_, rfl⟩
            obtain ⟨gk, egk⟩ : ∃ gk, gk = g.kd := ⟨_, rfl⟩
            rw [← efk] at x0 CF RA0 CA0
            rw [← egk] at y0 CF RC0 CC0
            obtain ⟨Z, eZ⟩ : ∃ Z, Z = cF f g := ⟨_, rfl⟩
            rw [← eZ] at CF
            have EZ := hide eZ
            clear efk egk eZ
            go_wp2_with fail
            have hS0 : Below wr.heap.size wr { wr with drawn := wr.drawn + 1 } := (Below.refl _ _).drew
            refine wp_region_noPanic ?_
            refine wp_region_held (S := fun w' => Below wr.heap.size wr w') mixed ?_
            refine wpAnyH_take (i := 0) (v := ?v1) rfl (by kernel_rfl) (by kernel_rfl) (by kernel_rfl) (fun _ _ _ h => h) (Or.inl ⟨by rfl, ?hy1⟩) hS0 ?_
            case hy1 => (intro w' hw'; have a0 := keepC hw' hpw x0; have a1 := keepC hw' hpw x1; have a2 := keepC hw' hpw x2; have b0 := keepC hw' hpw2 y0; have b1 := keepC hw' hpw2 y1; have b2 := keepC hw' hpw2 y2; go_simp; try with_reducible rfl)
            simp only [List.getElem_toArray, List.getElem_cons_zero, List.getElem_cons_succ, Act.put, List.setIfInBounds_toArray, List.set_cons_zero, List.set_cons_succ]
            refine wpAnyH_take (i := 1) (v := ?v2) rfl (by kernel_rfl) (by kernel_rfl) (by kernel_rfl) (fun _ _ _ h => h) (Or.inl ⟨by rfl, ?hy2⟩) hS0 ?_
            case hy2 => (intro w' hw'; have a0 := keepC hw' hpw x0; have a1 := keepC hw' hpw x1; have a2 := keepC hw' hpw x2; have b0 := keepC hw' hpw2 y0; have b1 := keepC hw' hpw2 y1; have b2 := keepC hw' hpw2 y2; go_simp; try with_reducible rfl)
            simp only [List.getElem_toArray, List.getElem_cons_zero, List.getElem_cons_succ, Act.put, List.setIfInBounds_toArray, List.set_cons_zero, List.set_cons_succ]
            refine wpAnyH_take (i := 2) (v := ?v3) rfl (by kernel_rfl) (by kernel_rfl) (by kernel_rfl) (fun _ _ _ h => h) (Or.inl ⟨by rfl, ?hy3⟩) hS0 ?_
            case hy3 => (intro w' hw'; have a0 := keepC hw' hpw x0; have a1 := keepC hw' hpw x1; have a2 := keepC hw' hpw x2; have b0 := keepC hw' hpw2 y0; have b1 := keepC hw' hpw2 y1; have b2 := keepC hw' hpw2 y2; go_simp; try with_reducible rfl)
            simp only [List.getElem_toArray, List.getElem_cons_zero, List.getElem_cons_succ, Act.put, List.setIfInBounds_toArray, List.set_cons_zero, List.set_cons_succ]
            refine wpAnyH_take (i := 3) (v := ?v4) rfl (by kernel_rfl) (by kernel_rfl) (by kernel_rfl) (fun _ _ _ h => h) (Or.inl ⟨by rfl, ?hy4⟩) hS0 ?_
            case hy4 => (intro w' hw'; have a0 := keepC hw' hpw x0; have a1 := keepC hw' hpw x1; have a2 := keepC hw' hpw x2; have b0 := keepC hw' hpw2 y0; have b1 := keepC hw' hpw2 y1; have b2 := keepC hw' hpw2 y2; go_simp; try with_reducible rfl)
            simp only [List.getElem_toArray, List.getElem_cons_zero, List.getElem_cons_succ, Act.put, List.setIfInBounds_toArray, List.set_cons_zero, List.set_cons_succ]
            refine wpAnyH_take (i := 4) (v := ?v5) rfl (by kernel_rfl) (by kernel_rfl) (by kernel_rfl) (fun _ _ _ h => h) (Or.inl ⟨by rfl, ?hy5⟩) hS0 ?_
            case hy5 => (intro w' hw'; have a0 := keepC hw' hpw x0; have a1 := keepC hw' hpw x1; have a2 := keepC hw' hpw x2; have b0 := keepC hw' hpw2 y0; have b1 := keepC hw' hpw2 y1; have b2 := keepC hw' hpw2 y2; go_simp; try with_reducible rfl)
            simp only [List.getElem_toArray, List.getElem_cons_zero, List.getElem_cons_succ, Act.put, List.setIfInBounds_toArray, List.set_cons_zero, List.set_cons_succ]
            refine wpAnyH_take (i := 5) (v := ?v6) rfl (by kernel_rfl) (by kernel_rfl) (by kernel_rfl) (fun _ _ _ h => h) (Or.inl ⟨by rfl, ?hy6⟩) hS0 ?_
            case hy6 => (intro w' hw'; have a0 := keepC hw' hpw x0; have a1 := keepC hw' hpw x1; have a2 := keepC hw' hpw x2; have b0 := keepC hw' hpw2 y0; have b1 := keepC hw' hpw2 y1; have b2 := keepC hw' hpw2 y2; go_simp; try with_reducible rfl)
            simp only [List.getElem_toArray, List.getElem_cons_zero, List.getElem_cons_succ, Act.put, List.setIfInBounds_toArray, List.set_cons_zero, List.set_cons_succ]
            refine wpAnyH_take (i := 6) (v := ?v7) rfl (by kernel_rfl) (by kernel_rfl) (by kernel_rfl) (fun _ _ _ h => h) (Or.inl ⟨by rfl, ?hy7⟩) hS0 ?_
            case hy7 => (intro w' hw'; have a0 := keepC hw' hpw x0; have a1 := keepC hw' hpw x1; have a2 := keepC hw' hpw x2; have b0 := keepC hw' hpw2 y0; have b1 := keepC hw' hpw2 y1; have b2 := keepC hw' hpw2 y2; go_simp; try with_reducible rfl)
            simp only [List.getElem_toArray, List.getElem_cons_zero, List.getElem_cons_succ, Act.put, List.setIfInBounds_toArray, List.set_cons_zero, List.set_cons_succ]
            refine wpAnyH_take (i := 7) (v := ?v8) rfl (by kernel_rfl) (by kernel_rfl) (by kernel_rfl) (fun _ _ _ h => h) (Or.inl ⟨by rfl, ?hy8⟩) hS0 ?_
            case hy8 => (intro w' hw'; have a0 := keepC hw' hpw x0; have a1 := keepC hw' hpw x1; have a2 := keepC hw' hpw x2; have b0 := keepC hw' hpw2 y0; have b1 := keepC hw' hpw2 y1; have b2 := keepC hw' hpw2 y2; go_simp; try with_reducible rfl)
            simp only [List.getElem_toArray, List.getElem_cons_zero, List.getElem_cons_succ, Act.put, List.setIfInBounds_toArray, List.set_cons_zero, List.set_cons_succ]
            refine rgn.one (i := 8) _ rfl (by kernel_rfl) (by rfl) ?_
            simp only [List.getElem_toArray, List.getElem_cons_zero, List.getElem_cons_succ, Act.put, List.setIfInBounds_toArray, List.set_cons_zero, List.set_cons_succ]
            go_wp2_with fail
            refine (unhide CF _ (Below.trans (unhide HB0) (hS0.mono (Below.size (unhide HB0))))).mono ?_
            rintro e w3 ⟨rfl, g3⟩
            have g3' : Below wr.heap.size wr w3 := hS0.trans g3
            refine ⟨g3', ?_⟩
            try simp only [List.getElem_toArray, List.getElem_cons_zero, List.getElem_cons_succ, Act.put, List.setIfInBounds_toArray, List.set_cons_zero, List.set_cons_succ]
            replace hS0 := g3'
            refine wpAnyH_take (i := 9) (v := ?v9) rfl (by kernel_rfl) (by kernel_rfl) (by kernel_rfl) (fun _ _ _ h => h) (Or.inl ⟨by rfl, ?hy9⟩) hS0 ?_
            case hy9 => (intro w' hw';  go_simp; try with_reducible rfl)
            simp only [List.getElem_toArray, List.getElem_cons_zero, List.getElem_cons_succ, Act.put, List.setIfInBounds_toArray, List.set_cons_zero, List.set_cons_succ]
            refine wpAnyH_done (by kernel_rfl) ?_ _; refine NoPanic.normal ?_
            have hG3 := grv_agree (unhide HG) (fun b hb => g3'.block b ((unhide HG).lt b hb).2)
            have hB3 : Gb w2 w3 := Below.trans (unhide HB) (g3'.mono (Below.size (unhide HB)))
            have hS3 : w2.heap.size ≤ w3.heap.size := Nat.le_trans (unhide HS) g3'.size
            clear HG HB HS x0 x1 x2 y0 y1 y2 hS0 g3 CF
            have HG := hide hG3
            have HB := hide hB3
            have HS := hide hS3
            clear hG3 hB3 hS3 g3'
            have rA := unhide RA0
            have rC := unhide RC0
            have cA := unhide CA0
            have cC := unhide CC0
            clear RA0 RC0 CA0 CC0
            obtain ⟨cs, ecs⟩ : ∃ cs, cs = [Value.int .i64 fk, .slice ap np cp, .slice aq nq cq] := ⟨_, rfl⟩
            obtain ⟨ds, eds⟩ : ∃ ds, ds = [Value.int .i64 gk, .slice bp mp dp, .slice bq mq dq] := ⟨_, rfl⟩
            rw [← ecs] at rA cA
            rw [← eds] at rC cC
            clear ecs eds
            have RA := hide (show w3.rangeAt p (off + i * 3) cs from fun q u hu => (Below.cell (unhide HB) (p := ⟨p, off + i * 3 + q, none⟩) hp).trans (rA q u hu))
            have IA := hide (show (Try.prog.info? 55).map (·.size) = some cs.length by rw [ftC_len cA]; exact infoF3)
            have BA := hide (buildF1 cA w3)
            have FA := hide cA
            clear rA cA
            have RC := hide (show w3.rangeAt p2 (off2 + j * 3) ds from fun q u hu => (Below.cell (unhide HB) (p := ⟨p2, off2 + j * 3 + q, none⟩) hp2).trans (rC q u hu))
            have IC := hide (show (Try.prog.info? 55).map (·.size) = some ds.length by rw [ftC_len cC]; exact infoF3)
            have BC := hide (buildF1 cC w3)
            have FC := hide cC
            clear rC cC
            rcases Int.lt_trichotomy Z 0 with hz | hz | hz
            · have z1 : Z ≤ 0 := by omega
              have z2 : (Z == 0) = false := by simpa using (show Z ≠ 0 by omega)
              have HZ := hide hz
              clear hz
              have hnk := hide (show O.length + 1 ≤ 1048577 by have := unhide HLn; omega)
              go_wp2_with (first
                | refine wpList_load_mid (by rfl) 55 _ (by rfl) p (off + i * 3) (by rfl) cs _ (unhide RA) Try.underlying55 (by rfl) (unhide IA) ?_
                | refine wpList_buildOne (by rfl) 50 _ (by rfl) (.agg cs.toArray) _ (by rfl) (unhide BA) ?_
                | (at_builtin; refine wp_ft (unhide HG) (Nat.le_refl _) (unhide HS) (unhide HB) (by rfl) _ _ (by rfl) (by rfl) f cs (unhide FA) w3.heap.size rfl (by rfl) (unhide hnk) ?_; intro g4 n4 cap w4 q4 b4 s4; have H4 := hide (And.intro q4 (And.intro b4 s4)); clear q4 b4 s4))
              go_roundw
              case rel => exact ⟨i + 1, j, _, by omega, by omega, rfl, by go_num, by go_num, hide ⟨⟨_, (unhide H4).1, mgA (unhide HO) (unhide EA) (.inr ⟨g, unhide EC, by rw [← unhide EZ]; exact unhide HZ⟩)⟩, (unhide H4).2.1, Nat.le_trans (unhide HS) (unhide H4).2.2⟩⟩
              case measure => simp [intOf]; omega
            · have HZ := hide hz
              subst hz
              have hnk := hide (show O.length + 1 ≤ 1048577 by have := unhide HLn; omega)
              go_wp2_with (first
                | refine wpList_load_mid (by rfl) 55 _ (by rfl) p (off + i * 3) (by rfl) cs _ (unhide RA) Try.underlying55 (by rfl) (unhide IA) ?_
                | refine wpList_buildOne (by rfl) 50 _ (by rfl) (.agg cs.toArray) _ (by rfl) (unhide BA) ?_
                | (at_builtin; refine wp_ft (unhide HG) (Nat.le_refl _) (unhide HS) (unhide HB) (by rfl) _ _ (by rfl) (by rfl) f cs (unhide FA) w3.heap.size rfl (by rfl) (unhide hnk) ?_; intro g4 n4 cap w4 q4 b4 s4; have H4 := hide (And.intro q4 (And.intro b4 s4)); clear q4 b4 s4))
              go_roundw
              case rel => exact ⟨i + 1, j + 1, _, by omega, by omega, rfl, by go_num, by go_num, hide ⟨⟨_, (unhide H4).1, mgE (unhide HO) (unhide EA) (unhide EC) (unhide EZ).symm⟩, (unhide H4).2.1, Nat.le_trans (unhide HS) (unhide H4).2.2⟩⟩
              case measure => simp [intOf]; omega
            · have z1 : ¬ Z ≤ 0 := by omega
              have HZ := hide hz
              clear hz
              have hnk := hide (show O.length + 1 ≤ 1048577 by have := unhide HLn; omega)
              go_wp2_with (first
                | refine wpList_load_mid (by rfl) 55 _ (by rfl) p2 (off2 + j * 3) (by rfl) ds _ (unhide RC) Try.underlying55 (by rfl) (unhide IC) ?_
                | refine wpList_buildOne (by rfl) 50 _ (by rfl) (.agg ds.toArray) _ (by rfl) (unhide BC) ?_
                | (at_builtin; refine wp_ft (unhide HG) (Nat.le_refl _) (unhide HS) (unhide HB) (by rfl) _ _ (by rfl) (by rfl) g ds (unhide FC) w3.heap.size rfl (by rfl) (unhide hnk) ?_; intro g4 n4 cap w4 q4 b4 s4; have H4 := hide (And.intro q4 (And.intro b4 s4)); clear q4 b4 s4))
              go_roundw
              case rel => exact ⟨i, j + 1, _, by omega, by omega, rfl, by go_num, by go_num, hide ⟨⟨_, (unhide H4).1, mgC (unhide HO) (unhide EC) (.inr ⟨f, unhide EA, by rw [← unhide EZ]; exact unhide HZ⟩)⟩, (unhide H4).2.1, Nat.le_trans (unhide HS) (unhide H4).2.2⟩⟩
              case measure => simp [intOf]; omega
          · have kj : ¬ (j : Int) < (n2 : Int) := by omega
            have EA := hide eA
            clear eA
            have RA := hide (show wr.rangeAt p (off + i * 3) cs from fun q u hu => (Below.cell (unhide HB) (p := ⟨p, off + i * 3 + q, none⟩) hp).trans (rA q u hu))
            have IA := hide (show (Try.prog.info? 55).map (·.size) = some cs.length by rw [ftC_len cA]; exact infoF3)
            have BA := hide (buildF1 cA wr)
            have FA := hide cA
            clear rA cA
            have hnk := hide (show O.length + 1 ≤ 1048577 by have := unhide HLn; omega)
            go_wp2_with (first
              | refine wpList_load_mid (by rfl) 55 _ (by rfl) p (off + i * 3) (by rfl) cs _ (unhide RA) Try.underlying55 (by rfl) (unhide IA) ?_
              | refine wpList_buildOne (by rfl) 50 _ (by rfl) (.agg cs.toArray) _ (by rfl) (unhide BA) ?_
              | (at_builtin; refine wp_ft (unhide HG) (Nat.le_refl _) (unhide HS) (unhide HB) (by rfl) _ _ (by rfl) (by rfl) f cs (unhide FA) wr.heap.size rfl (by rfl) (unhide hnk) ?_; intro g4 n4 cap w4 q4 b4 s4; have H4 := hide (And.intro q4 (And.intro b4 s4)); clear q4 b4 s4))
            go_roundw
            case rel => exact ⟨i + 1, j, _, by omega, by omega, rfl, by go_num, by go_num, hide ⟨⟨_, (unhide H4).1, mgA (unhide HO) (unhide EA) (.inl (by have := unhide LC; omega))⟩, (unhide H4).2.1, Nat.le_trans (unhide HS) (unhide H4).2.2⟩⟩
            case measure => simp [intOf]; omega
        · have ki : ¬ (i : Int) < (n1 : Int) := by omega
          have ki' : (n1 : Int) ≤ (i : Int) := by omega
          by_cases ltC : j < n2
          · have kj : (j : Int) < (n2 : Int) := by omega
            obtain ⟨p2, off2, g, ds, rfl, hp2, eC, rC, cC⟩ := (unhide HC2).get (k := j) ltC
            have EC := hide eC
            clear eC
            have RC := hide (show wr.rangeAt p2 (off2 + j * 3) ds from fun q u hu => (Below.cell (unhide HB) (p := ⟨p2, off2 + j * 3 + q, none⟩) hp2).trans (rC q u hu))
            have IC := hide (show (Try.prog.info? 55).map (·.size) = some ds.length by rw [ftC_len cC]; exact infoF3)
            have BC := hide (buildF1 cC wr)
            have FC := hide cC
            clear rC cC
            have hnk := hide (show O.length + 1 ≤ 1048577 by have := unhide HLn; omega)
            go_wp2_with (first
              | refine wpList_load_mid (by rfl) 55 _ (by rfl) p2 (off2 + j * 3) (by rfl) ds _ (unhide RC) Try.underlying55 (by rfl) (unhide IC) ?_
              | refine wpList_buildOne (by rfl) 50 _ (by rfl) (.agg ds.toArray) _ (by rfl) (unhide BC) ?_
              | (at_builtin; refine wp_ft (unhide HG) (Nat.le_refl _) (unhide HS) (unhide HB) (by rfl) _ _ (by rfl) (by rfl) g ds (unhide FC) wr.heap.size rfl (by rfl) (unhide hnk) ?_; intro g4 n4 cap w4 q4 b4 s4; have H4 := hide (And.intro q4 (And.intro b4 s4)); clear q4 b4 s4))
            go_roundw
            case rel => exact ⟨i, j + 1, _, by omega, by omega, rfl, by go_num, by go_num, hide ⟨⟨_, (unhide H4).1, mgC (unhide HO) (unhide EC) (.inl (by have := unhide LA; omega))⟩, (unhide H4).2.1, Nat.le_trans (unhide HS) (unhide H4).2.2⟩⟩
            case measure => simp [intOf]; omega
          · have kj : ¬ (j : Int) < (n2 : Int) := by omega
            obtain ⟨aj, cj, rfl⟩ := grv_form (unhide HG)
            have HF := hide (show O = mg A C by
              have := unhide HO
              rw [List.drop_eq_nil_of_le (by have := unhide LA; omega), List.drop_eq_nil_of_le (by have := unhide LC; omega), mg_nil, List.append_nil] at this
              exact this)
            obtain ⟨nO, eO⟩ : ∃ nO, nO = O.length := ⟨_, rfl⟩
            have HR := hide (grf_read (unhide HG) (unhide HB))
            rw [← eO] at HR
            rw [← eO]
            clear eO
            go_wp2
            go_ret
            exact ⟨aj, nO, cj, _, rfl, unhide HOd, by rw [← unhide HF]; exact unhide HR, Below.trans (unhide HB2) (Below.mono (unhide HB) (Below.size (unhide HB2)))⟩
end Go.Proofs.Ythpcpminikmcbaa.og
namespace Go.Proofs.Ythpcpminikmcbaa.og
open Go.ChangeShapes Go.WideShapes Go.ChangeAt Go.RowKit Go.Shelf
open vl hiding cB cFl cS cF cI cK cIt
open stp (St Pth St3 c3 c3_lt c3_gt c3_eq lexS pN pI)
set_option linter.unusedVariables false
set_option linter.unusedSimpArgs false
/-- these cells are the fault f, whatever becomes of the block g -/
def FtK (w : World) (g : Option Nat) (f : Ft) (cs : List Value) : Prop := ∀ w', w.heap.size ≤ w'.heap.size → (∀ b, b < w.heap.size → some b ≠ g → w'.heap[b]? = w.heap[b]?) → FtC w' f cs
theorem FtK.now {w : World} {g : Option Nat} {f : Ft} {cs : List Value} (h : FtK w g f cs) : FtC w f cs := h w (Nat.le_refl _) (fun _ _ _ => rfl)
theorem FtN.now {lo : Nat} {w : World} {f : Ft} {cs : List Value} (h : FtN lo w f cs) : FtC w f cs := h w (Nat.le_refl _) (fun _ _ _ => rfl)
theorem P2.imp' {α β : Type} {R R' : α → β → Prop} (hi : ∀ a b, R a b → R' a b) : ∀ {l : List α} {r : List β}, P2 R l r → P2 R' l r
  | [], [], _ => trivial
  | _ :: _, _ :: _, h => ⟨hi _ _ h.1, P2.imp' hi h.2⟩
  | [], _ :: _, h => h.elim
  | _ :: _, [], h => h.elim
theorem GrV.imp {E : Type} {R R' : E → List Value → Prop} {t : TypeId} {size B : Nat} {l : List E} {sl : Value} {w : World} (h : GrV R t size B l sl w) (hi : ∀ e cs, R e cs → R' e cs) : GrV R' t size B l sl w := by
  obtain ⟨xss, h1, h2⟩ := h
  exact ⟨xss, h1, P2.imp' hi h2⟩
/-- some lists of faults, to be read -/
structure LstR (w : World) (a : Option Addr) (n : Nat) (LL : List (List Ft)) : Prop where
  len : LL.length = n
  at_ : n = 0 ∨ ∃ b off, a = some ⟨b, off, none⟩ ∧ b < w.heap.size ∧ ∀ (i : Nat) (l : List Ft), LL[i]? = some l → ∃ ai ni ci, w.cell? ⟨b, off + i, none⟩ = some (.slice ai ni ci) ∧ FtsR w ai ni ci l
theorem LstR.get {w : World} {a : Option Addr} {n : Nat} {LL : List (List Ft)} (h : LstR w a n LL) {k : Nat} (hk : k < n) : ∃ b off l ai ni ci, a = some ⟨b, off, none⟩ ∧ b < w.heap.size ∧ LL[k]? = some l ∧ w.cell? ⟨b, off + k, none⟩ = some (.slice ai ni ci) ∧ FtsR w ai ni ci l := by
  rcases h.at_ with h0 | ⟨b, off, ha, hlt, hc⟩
  · omega
  · have e := List.getElem?_eq_getElem (show k < LL.length by rw [h.len]; exact hk)
    obtain ⟨ai, ni, ci, h1, h2⟩ := hc k _ e
    exact ⟨b, off, _, ai, ni, ci, ha, hlt, e, h1, h2⟩
/-- what Faults has laid together so far -/
structure AlI (w : World) (l : List Ft) (sl : Value) (wr : World) : Prop where
  gr : GrV (FtK wr sl.ownBlock) 55 3 w.heap.size (l.map can) sl wr
  bel : Below w.heap.size w wr
theorem AlI.nil (w : World) : AlI w [] (.slice none 0 0) w := ⟨GrV.nil, Below.refl _ _⟩
theorem AlI.read {w : World} {l : List Ft} {aj : Option Addr} {nj cj : Nat} {wr : World} (h : AlI w l (.slice aj nj cj) wr) : FtsR wr aj nj cj (l.map can) := grf_read (h.gr.imp (fun e cs hc => hc.now)) (Below.refl _ _)
theorem wp_al {w wr w1 V : World} {l : List Ft} {sl : Value} {ops : Array Oper} {rest : List Oper} {o : Oper} {a : Act} {Q : Exit → Act → World → Prop} (hI : AlI w l sl wr) (f : Ft) (cs : List Value) (hN : FtN wr.heap.size w1 (can f) cs) (b1 : Below wr.heap.size wr w1) (b2 : Below w1.heap.size w1 V) (hgd : o.guard = none) (s x : Operand)
    (ho : o.op = .call { callee := .builtin .append, args := #[s, x], argTypes := #[50, 50] }) (hs : a.eval s = sl) (N : Nat) (hNn : N = V.heap.size) (hx : a.eval x = .slice (some ⟨N, 0, none⟩) 1 1) (hn : l.length + 1 ≤ 1048577)
    (h : ∀ g n cap w', AlI w (l ++ [f]) (.slice (some ⟨g, 0, none⟩) n cap) w' → wpList Try.prog ops Q rest (a.put o.dst (.slice (some ⟨g, 0, none⟩) n cap)) w') : wpList Try.prog ops Q (o :: rest) a (V.alloc (.cells cs.toArray 55)) := by
  obtain ⟨i, z, hi, hz, hsz, hb, hc⟩ := infoF
  have hlt := hI.gr.lt
  have bV : Below wr.heap.size wr V := b1.trans (b2.mono b1.size)
  have sw := hI.bel.size
  have s1 := b1.size
  have s2 := b2.size
  have hf := hN.now
  have hG : GrV (fun f cs => FtK wr sl.ownBlock f cs ∨ FtN wr.heap.size w1 f cs) 55 3 w.heap.size (l.map can) sl V := (grv_agree hI.gr (fun b hb => bV.block b (hlt b hb).2)).imp (fun e cs h => .inl h)
  refine wp_grv hgd s x ho Try.underlying50 hi hz hsz hb hc (by omega) w.heap.size (l.map can) sl hs hG (can f) cs (.inr hN) (ftC_len hf) (ftC_one hf) N hNn hx (by rw [List.length_map]; omega) (by rw [List.length_map]; unfold maxLen; omega) (by omega) ?_
  intro g cap w' hg hgr hat hlt'
  have sg := hgr.size
  simp at sg
  have hblk : ∀ b, b < V.heap.size → sl.ownBlock ≠ some b → w'.heap[b]? = V.heap[b]? := fun b hb hne => (hgr.block b (by simp; omega) (fun e => hne e.symm)).trans (Below.heap_alloc V _ b hb)
  have hne : ∀ b, b < wr.heap.size → sl.ownBlock ≠ some b → some b ≠ some g := fun b hb hn e => by
    cases e
    rcases hat with hat | hat
    · exact hn hat
    · omega
  have hne' : ∀ b, wr.heap.size ≤ b → b < V.heap.size → sl.ownBlock ≠ some b := fun b hb _ e => by have := (hlt b e).2; omega
  refine h g _ cap w' ⟨?_, hI.bel.trans (((bV.mono sw).alloc (by omega) _).grown hgr (by simp; omega) (fun q hq => (hlt q hq).1))⟩
  rw [List.map_append]
  refine hg.imp (fun e cs hc => ?_)
  rcases hc with hc | hc
  · intro w'' hs'' hb''
    refine hc w'' (by omega) (fun b hb hn => ?_)
    rw [hb'' b (by omega) (hne b hb (fun e => hn e.symm)), hblk b (by omega) (fun e => hn e.symm), bV.block b hb]
  · intro w'' hs'' hb''
    refine hc w'' (by omega) (fun b hb1 hb2 => ?_)
    have hng : some b ≠ some g := fun e => by
      cases e
      rcases hat with hat | hat
      · have := (hlt _ hat).2; omega
      · omega
    rw [hb'' b (by omega) hng, hblk b (by omega) (hne' b hb1 (by omega)), b2.block b hb2]
theorem copyF_ok' (f : Ft) (cs : List Value) (w : World) (hf : FtC w f cs) : Calls Try.prog 46 #[.agg cs.toArray] w fun e w' => ∃ (kd : Int) (a1 : Option Addr) (n1 c1 : Nat) (a2 : Option Addr) (n2 c2 : Nat), e = .returned (.agg #[.int .i64 kd, .slice a1 n1 c1, .slice a2 n2 c2]) ∧ FtN w.heap.size w' (can f) [.int .i64 kd, .slice a1 n1 c1, .slice a2 n2 c2] ∧ Below w.heap.size w w' := by
  refine (copyF_ok f cs w hf).mono ?_
  rintro e w' ⟨ds, rfl, -, hN, hb⟩
  have hc := hN.now
  obtain ⟨a1, n1, c1, a2, n2, c2, rfl, -⟩ := hc
  exact ⟨_, a1, n1, c1, a2, n2, c2, rfl, hN, hb⟩
set_option maxHeartbeats 1000000 in
set_option maxRecDepth 6000 in
theorem rfaults_ok (w : World) (LL : List (List Ft)) (a : Option Addr) (n c : Nat) (h : LstR w a n LL) (hN : LL.flatten.length ≤ 1048576) (hn : n ≤ 1048576) : Calls Try.prog 22 #[.slice a n c] w (UniP LL.flatten LL.flatten.length w) := by
  have HL := hide h
  have HN := hide hN
  clear h hN
  go_enter Try.func22, Try.ntmps22
  go_wp2_with fail
  go_loopw [4, 3] (fun vi v3 wr => ∃ (k : Nat) (sl : Value), k ≤ n ∧ vi = .int .i64 k ∧ v3 = sl ∧ vl.Hid (AlI w (LL.take k).flatten sl wr)) (fun vi _ _ => n - (intOf vi).toNat)
  case atStart => exact ⟨0, _, Nat.zero_le _, rfl, rfl, hide (by rw [List.take_zero]; exact AlI.nil w)⟩
  case round =>
    obtain ⟨k, sl, hk, rfl, hv3, HI⟩ := hrel
    have hv3 := hv3.symm
    subst hv3
    by_cases hlt : k < n
    · have ki : (k : Int) < (n : Int) := by omega
      obtain ⟨b, off, l, ai, ni, ci, rfl, hb, hl, hcell, hR⟩ := (unhide HL).get hlt
      have HR := hide hR
      have Hl := hide hl
      have HLn := hide (show (LL.take k).flatten.length + l.length ≤ 1048576 by
        have h1 := flat_take_succ hl
        have h2 := flat_take_le LL (k + 1)
        rw [h1, List.length_append] at h2
        have := unhide HN
        omega)
      have hni := hR.len
      have HNi := hide hni
      have Hc := hide hcell
      have hnib : ni ≤ 1048576 := by have := unhide HLn; omega
      clear hR hl hni hcell
      go_wp2_with fail
      go_loopw [5, 3] (fun vj v3 wr' => ∃ (j : Nat) (sl : Value), j ≤ ni ∧ vj = .int .i64 j ∧ v3 = sl ∧ vl.Hid (AlI w ((LL.take k).flatten ++ l.take j) sl wr')) (fun vj _ _ => ni - (intOf vj).toNat)
      case atStart => exact ⟨0, _, Nat.zero_le _, rfl, rfl, hide (by rw [List.take_zero, List.append_nil]; exact unhide HI)⟩
      case round =>
        clear HI
        obtain ⟨j, sl', hj, rfl, hv3, HI⟩ := hrel
        have hv3 := hv3.symm
        subst hv3
        have x := keepC (unhide HI).bel hb (unhide Hc)
        by_cases hlj : j < ni
        · have kj : (j : Int) < (ni : Int) := by omega
          obtain ⟨p, off', f, cs, rfl, hp, hf, hr, hc⟩ := (unhide HR).get hlj
          have CF := hide (copyF_ok' f cs wr (hc.below (unhide HI).bel))
          have Hf := hide hf
          obtain ⟨ap, np, cp, aq, nq, cq, rfl, -⟩ := hc
          have x0 : wr.cell? ⟨p, off' + j * 3, none⟩ = some (.int .i64 f.kd) := keepC (unhide HI).bel hp (hr 0 _ rfl)
          have x1 : wr.cell? ⟨p, off' + j * 3 + 1, none⟩ = some (.slice ap np cp) := keepC (unhide HI).bel hp (hr 1 _ rfl)
          have x2 : wr.cell? ⟨p, off' + j * 3 + 2, none⟩ = some (.slice aq nq cq) := keepC (unhide HI).bel hp (hr 2 _ rfl)
          obtain ⟨fk, efk⟩ : ∃ fk, fk = f.kd := ⟨_, rfl⟩
          rw [← efk] at x0 CF
          clear hr hf efk
          go_wp2_with fail
          refine (unhide CF).mono ?_
          rintro e w1 ⟨kd, a1, n1, c1, a2, n2, c2, rfl, hN1, b1⟩
          have HN1 := hide hN1
          have B1 := hide b1
          have B2 := hide ((Below.refl w1.heap.size w1).alloc (Nat.le_refl _) (.cells #[Value.int IntKind.i64 kd, .slice a1 n1 c1, .slice a2 n2 c2] 55))
          have hnk := hide (show ((LL.take k).flatten ++ l.take j).length + 1 ≤ 1048577 by have := unhide HLn; have := List.length_take_le j l; have := unhide HNi; rw [List.length_append]; omega)
          clear hN1 b1 CF x x0 x1 x2
          go_wp2_with (at_builtin; refine wp_al (unhide HI) f [.int .i64 kd, .slice a1 n1 c1, .slice a2 n2 c2] (unhide HN1) (unhide B1) (unhide B2) (by rfl) _ _ (by rfl) (by rfl) (w1.heap.size + 1) (by simp) (by rfl) (unhide hnk) ?_; intro g4 n4 cap w4 q4; have H4 := hide q4; clear q4)
          go_roundw
          case rel => exact ⟨j + 1, _, by omega, by go_num, rfl, by rw [List.take_add_one, unhide Hf, ← List.append_assoc]; exact H4⟩
          case measure => simp [intOf]; omega
        · obtain rfl : j = ni := by omega
          have kj : ¬ (j : Int) < (j : Int) := by omega
          have HI2 := hide (show AlI w (LL.take (k + 1)).flatten sl' wr by
            have := unhide HI
            rw [List.take_of_length_le (Nat.le_of_eq (unhide HNi)), ← flat_take_succ (unhide Hl)] at this
            exact this)
          go_wp2_with fail
          go_roundw
          case rel => exact ⟨k + 1, _, by omega, by go_num, rfl, HI2⟩
          case measure => simp [intOf]; omega
    · obtain rfl : k = n := by omega
      have hfin : AlI w LL.flatten sl wr := by
        have := unhide HI
        rwa [List.take_of_length_le (Nat.le_of_eq (unhide HL).len)] at this
      obtain ⟨aj, cj, rfl⟩ := grv_form hfin.gr
      have hrd := hfin.read
      rw [List.length_map] at hrd
      have hbel := hfin.bel
      have OR := hide (ordered_ok LL.flatten.length (LL.flatten.map can) aj LL.flatten.length cj wr (Nat.le_refl _) hrd (cn_map _) (unhide HN))
      obtain ⟨T, eT⟩ : ∃ T, T = LL.flatten.length := ⟨_, rfl⟩
      have ET := hide eT
      rw [List.length_map]
      rw [← eT] at OR ⊢
      clear hfin hrd HI eT
      go_wp2_with fail
      refine (unhide OR).mono ?_
      rintro e w2 ⟨a2, n2, c2, R, rfl, hOd, hR2, b2⟩
      have HU := hide (show UniP LL.flatten T w (.returned (.slice a2 n2 c2)) w2 from ⟨a2, n2, c2, R, Od.rs rfl hOd, by have h1 := hR2.len; have h2 := hOd.len; rw [List.length_map, ← unhide ET] at h2; omega, rfl, hR2, hbel.trans (b2.mono hbel.size)⟩)
      clear hOd hR2 b2 OR
      go_wp2
      go_ret
      have := unhide HU
      rw [unhide ET] at this
      exact this
end Go.Proofs.Ythpcpminikmcbaa.og
namespace Go.Proofs.Ythpcpminikmcbaa.og
open Go.ChangeShapes Go.WideShapes Go.ChangeAt Go.RowKit Go.Shelf
open vl hiding cB cFl cS cF cI cK cIt
open stp (St Pth St3 c3 c3_lt c3_gt c3_eq lexS)
set_option linter.unusedVariables false
set_option linter.unusedSimpArgs false
def onpF : Ft := ⟨7, [(1, 2)], []⟩
theorem onp_can : can onpF = onpF := by rfl
theorem rs_onp {R : List Ft} (h : Rs ([onpF] ++ [onpF]) R) : R = [onpF] := by
  refine ris_eq h.ris (List.pairwise_singleton _ _) (fun f => (h.mem f).trans ?_)
  simp [onp_can]
def onp1 (w : World) : World := w.alloc (.cells #[Value.int IntKind.i64 1, Value.int IntKind.i64 2] 52)
def onp2 (w : World) : World := (onp1 w).alloc (.cells #[Value.int IntKind.i64 7, Value.slice (some ⟨w.heap.size, 0, none⟩) 1 1, Value.slice none 0 0] 55)
def onp3 (w : World) : World := (onp2 w).alloc (.cells #[Value.slice (some ⟨w.heap.size + 1, 0, none⟩) 1 1, Value.slice (some ⟨w.heap.size + 1, 0, none⟩) 1 1] 50)
theorem onp_s1 (w : World) : (onp1 w).heap.size = w.heap.size + 1 := by simp [onp1]
theorem onp_s2 (w : World) : (onp2 w).heap.size = w.heap.size + 1 + 1 := by simp [onp2, onp_s1]
theorem onp_s3 (w : World) : (onp3 w).heap.size = w.heap.size + 1 + 1 + 1 := by simp [onp3, onp_s2]
theorem onp_b1 (w : World) : Below w.heap.size w (onp1 w) := (Below.refl _ _).alloc (Nat.le_refl _) _
theorem onp_b2 (w : World) : Below (w.heap.size + 1) (onp1 w) (onp2 w) := (Below.refl _ _).alloc (by rw [onp_s1]; exact Nat.le_refl _) _
theorem onp_b3 (w : World) : Below (w.heap.size + 1 + 1) (onp2 w) (onp3 w) := (Below.refl _ _).alloc (by rw [onp_s2]; exact Nat.le_refl _) _
theorem onp_b (w : World) : Below w.heap.size w (onp3 w) := ((onp_b1 w).trans ((onp_b2 w).mono (by omega))).trans ((onp_b3 w).mono (by omega))
theorem onp_l (w : World) (j : Nat) (hj : j < 2) : (onp3 w).cell? ⟨w.heap.size + 1 + 1, j, none⟩ = some (.slice (some ⟨w.heap.size + 1, 0, none⟩) 1 1) := by
  unfold onp3
  rw [World.cell?_alloc_at _ _ _ _ (onp_s2 w).symm]
  rcases (by omega : j = 0 ∨ j = 1) with rfl | rfl <;> rfl
theorem onp_r (w : World) : (onp3 w).rangeAt (w.heap.size + 1) 0 [Value.int IntKind.i64 7, Value.slice (some ⟨w.heap.size, 0, none⟩) 1 1, Value.slice none 0 0] := fun j u hu => by
  rw [Nat.zero_add]
  refine ((onp_b3 w).cell (p := ⟨w.heap.size + 1, j, none⟩) (Nat.lt_succ_self _)).trans ?_
  unfold onp2
  rw [World.cell?_alloc_at _ _ _ _ (onp_s1 w).symm]
  simpa using hu
theorem onp_q (w : World) : (onp3 w).rangeAt w.heap.size 0 [Value.int IntKind.i64 1, Value.int IntKind.i64 2] := fun j u hu => by
  rw [Nat.zero_add]
  refine ((((onp_b2 w).trans ((onp_b3 w).mono (by omega)))).cell (p := ⟨w.heap.size, j, none⟩) (Nat.lt_succ_self _)).trans ?_
  unfold onp1
  rw [World.cell?_alloc_at _ _ _ _ rfl]
  simpa using hu
theorem onp_c (w : World) : FtC (onp3 w) onpF [Value.int IntKind.i64 7, Value.slice (some ⟨w.heap.size, 0, none⟩) 1 1, Value.slice none 0 0] := by
  refine ⟨some ⟨w.heap.size, 0, none⟩, 1, 1, none, 0, 0, rfl, ⟨rfl, .inr ⟨w.heap.size, 0, rfl, by rw [onp_s3]; omega, fun k p hp => ?_⟩⟩, ⟨rfl, .inl rfl⟩, by omega, by omega, by omega, by omega, fun e => (by cases e), fun _ => rfl, by decide, by decide⟩
  cases k with
  | zero => simp [onpF] at hp; subst hp; simpa [posC] using onp_q w
  | succ k => simp [onpF] at hp
theorem onp_f (w : World) : FtsR (onp3 w) (some ⟨w.heap.size + 1, 0, none⟩) 1 1 [onpF] := by
  refine ⟨rfl, Nat.le_refl _, fun e => (by cases e), .inr ⟨_, _, rfl, by rw [onp_s3]; omega, fun k f hf => ?_⟩⟩
  cases k with
  | zero => simp at hf; subst hf; exact ⟨_, by simpa using onp_r w, onp_c w⟩
  | succ k => simp at hf
theorem faults0 (w : World) : Calls Try.prog 19 #[.slice none 0 0] w (UniP [] 0 w) :=
  (faults_ok w [] none 0 0 ⟨rfl, .inl rfl⟩ (by simp) (by omega)).mono (fun e w' h => uni_of (LL := []) rfl (by simp) h)
theorem faults3 (w : World) (p : Nat) (a : Option Addr) (n c : Nat) (R : List Ft) (a' : Option Addr) (n' c' : Nat) (R' : List Ft) (a'' : Option Addr) (n'' c'' : Nat) (R'' : List Ft) (hp : p < w.heap.size) (h0 : w.cell? ⟨p, 0, none⟩ = some (.slice a n c)) (h1 : w.cell? ⟨p, 1, none⟩ = some (.slice a' n' c')) (h2 : w.cell? ⟨p, 2, none⟩ = some (.slice a'' n'' c'')) (hR : FtsR w a n c R) (hR' : FtsR w a' n' c' R') (hR'' : FtsR w a'' n'' c'' R'') (hn : n + n' + n'' ≤ 1048576) : Calls Try.prog 19 #[.slice (some ⟨p, 0, none⟩) 3 3] w (UniP (R ++ (R' ++ R'')) 1048576 w) := by
  obtain ⟨l, hl, hm⟩ := hR.fbs
  obtain ⟨l', hl', hm'⟩ := hR'.fbs
  obtain ⟨l'', hl'', hm''⟩ := hR''.fbs
  have hf : ([l, l', l''] : List (List (Fb w))).flatten = l ++ (l' ++ l'') := by simp
  have hs : (l ++ (l' ++ l'')).length = n + n' + n'' := by rw [List.length_append, List.length_append, hl.len, hl'.len, hl''.len]; omega
  refine (faults_ok w [l, l', l''] (some ⟨p, 0, none⟩) 3 3 ⟨rfl, .inr ⟨p, 0, rfl, hp, fun i x hx => ?_⟩⟩ (by rw [hf, hs]; exact hn) (by omega)).mono (fun e w' h => uni_of (by rw [hf, List.map_append, List.map_append, hm, hm', hm'']) (by rw [hf, hs]; exact hn) h)
  match i, hx with
  | 0, hx => simp at hx; subst hx; exact ⟨a, n, c, h0, hl⟩
  | 1, hx => simp at hx; subst hx; exact ⟨a', n', c', h1, hl'⟩
  | 2, hx => simp at hx; subst hx; exact ⟨a'', n'', c'', h2, hl''⟩
  | i + 3, hx => simp at hx
theorem uni_mono {ins : List Ft} {m m' : Nat} {w : World} {e : Ending} {w' : World} (hm : m ≤ m') (h : UniP ins m w e w') : UniP ins m' w e w' := by
  obtain ⟨aj, nj, cj, R, h1, h2, h3⟩ := h
  exact ⟨aj, nj, cj, R, h1, by omega, h3⟩
theorem rfaults1 (w : World) (p : Nat) (a : Option Addr) (n c : Nat) (R : List Ft) (hp : p < w.heap.size) (h0 : w.cell? ⟨p, 0, none⟩ = some (.slice a n c)) (hR : FtsR w a n c R) (hn : n ≤ 1048576) : Calls Try.prog 22 #[.slice (some ⟨p, 0, none⟩) 1 1] w (UniP R 1048576 w) := by
  have hf : ([R] : List (List Ft)).flatten = R := by simp
  have h := rfaults_ok w [R] (some ⟨p, 0, none⟩) 1 1 ⟨rfl, .inr ⟨p, 0, rfl, hp, fun i x hx => by
    cases i with
    | zero => simp at hx; subst hx; exact ⟨a, n, c, h0, hR⟩
    | succ i => simp at hx⟩⟩ (by rw [hf, hR.len]; exact hn) (by omega)
  rw [hf] at h
  exact h.mono (fun e w' h => uni_mono (by rw [hR.len]; exact hn) h)
theorem rfaults3 (w : World) (p : Nat) (a : Option Addr) (n c : Nat) (R : List Ft) (a' : Option Addr) (n' c' : Nat) (R' : List Ft) (a'' : Option Addr) (n'' c'' : Nat) (R'' : List Ft) (hp : p < w.heap.size) (h0 : w.cell? ⟨p, 0, none⟩ = some (.slice a n c)) (h1 : w.cell? ⟨p, 1, none⟩ = some (.slice a' n' c')) (h2 : w.cell? ⟨p, 2, none⟩ = some (.slice a'' n'' c'')) (hR : FtsR w a n c R) (hR' : FtsR w a' n' c' R') (hR'' : FtsR w a'' n'' c'' R'') (hn : n + n' + n'' ≤ 1048576) : Calls Try.prog 22 #[.slice (some ⟨p, 0, none⟩) 3 3] w (UniP (R ++ (R' ++ R'')) 1048576 w) := by
  have hf : ([R, R', R''] : List (List Ft)).flatten = R ++ (R' ++ R'') := by simp
  have hs : (R ++ (R' ++ R'')).length = n + n' + n'' := by rw [List.length_append, List.length_append, hR.len, hR'.len, hR''.len]; omega
  have h := rfaults_ok w [R, R', R''] (some ⟨p, 0, none⟩) 3 3 ⟨rfl, .inr ⟨p, 0, rfl, hp, fun i x hx => by
    match i, hx with
    | 0, hx => simp at hx; subst hx; exact ⟨a, n, c, h0, hR⟩
    | 1, hx => simp at hx; subst hx; exact ⟨a', n', c', h1, hR'⟩
    | 2, hx => simp at hx; subst hx; exact ⟨a'', n'', c'', h2, hR''⟩
    | i + 3, hx => simp at hx⟩⟩ (by rw [hf, hs]; exact hn) (by omega)
  rw [hf] at h
  exact h.mono (fun e w' h => uni_mono (by rw [hs]; exact hn) h)
theorem rs_same {A R S : List Ft} (h : Rs A R) (k : Rs A S) : R = S := rs_unique h k (fun f => Iff.rfl)
set_option maxHeartbeats 2000000 in
set_option maxRecDepth 100000 in
theorem law_faults (X Y Z : List Ft) (a0 a1 a2 : Option Addr) (n0 c0 n1 c1 n2 c2 : Nat) (w : World) (hX : FtsR w a0 n0 c0 X) (hY : FtsR w a1 n1 c1 Y) (hZ : FtsR w a2 n2 c2 Z) (hn : n0 + n1 + n2 ≤ 1048576) : Calls Try.prog 6 #[.slice a0 n0 c0, .slice a1 n1 c1, .slice a2 n2 c2] w fun e w' => e = .returned (.bool true) ∧ Below w.heap.size w w' := by
  have HX := hide hX
  have HY := hide hY
  have HZ := hide hZ
  clear hX hY hZ
  go_enter Try.func6, Try.ntmps6
  go_wp2_with fail
  obtain ⟨V, eV⟩ : ∃ V, V = onp3 w := ⟨_, rfl⟩
  have B1 : Below w.heap.size w V := by rw [eV]; exact onp_b w
  have HO : vl.Hid (FtsR V (some ⟨w.heap.size + 1, 0, none⟩) 1 1 [onpF]) := hide (by rw [eV]; exact onp_f w)
  have lo : w.heap.size + 1 < V.heap.size := by rw [eV, onp_s3]; omega
  have CF := hide (show Calls Try.prog 19 #[.slice (some ⟨w.heap.size + 1 + 1, 0, none⟩) 2 2] V (UniP ([onpF] ++ [onpF]) (1 + 1) V) by rw [eV]; exact faults2 (onp3 w) (w.heap.size + 1 + 1) _ 1 1 [onpF] _ 1 1 [onpF] (by rw [onp_s3]; omega) (onp_l w 0 (by omega)) (onp_l w 1 (by omega)) (onp_f w) (onp_f w) (by omega))
  have eV' := eV
  unfold onp3 onp2 onp1 at eV'
  rw [← eV']
  clear eV eV'
  refine (unhide CF).mono ?_
  clear CF
  rintro e U ⟨aj, nj, cj, R, hRs, hnj, rfl, hU, gU⟩
  obtain rfl := rs_onp hRs
  obtain rfl : 1 = nj := hU.len
  clear hRs hnj
  obtain ⟨p, off, f, cs, rfl, hp, hf, hr, hc⟩ := hU.get (k := 0) (by omega)
  obtain rfl : onpF = f := by simpa using hf
  obtain ⟨p', off', f', ds, ep, hp', hf', hr', hc'⟩ := ((unhide HO).below gU).get (k := 0) (by omega)
  cases ep
  obtain rfl : onpF = f' := by simpa using hf'
  have SF := hide (fun W (hW : Below U.heap.size U W) => sameF_true onpF cs ds W (hc.below hW) (hc'.below hW))
  obtain ⟨ap, np, cp, aq, nq, cq, rfl, -⟩ := hc
  obtain ⟨bp, mp, dp, bq, mq, dq, rfl, -⟩ := hc'
  obtain ⟨K, eK⟩ : ∃ K, K = onpF.kd := ⟨_, rfl⟩
  rw [← eK] at hr hr' SF
  have x0 : U.cell? ⟨p, off, none⟩ = some (.int .i64 K) := by simpa using hr 0 _ rfl
  have x1 : U.cell? ⟨p, off + 1, none⟩ = some (.slice ap np cp) := by simpa using hr 1 _ rfl
  have x2 : U.cell? ⟨p, off + 2, none⟩ = some (.slice aq nq cq) := by simpa using hr 2 _ rfl
  have y0 : U.cell? ⟨w.heap.size + 1, 0, none⟩ = some (.int .i64 K) := by simpa using hr' 0 _ rfl
  have y1 : U.cell? ⟨w.heap.size + 1, 1, none⟩ = some (.slice bp mp dp) := by simpa using hr' 1 _ rfl
  have y2 : U.cell? ⟨w.heap.size + 1, 2, none⟩ = some (.slice bq mq dq) := by simpa using hr' 2 _ rfl
  have B2 := B1.trans (gU.mono B1.size)
  clear hr hr' hf hf' HO hU eK gU
  go_wp2_with fail
  have hS0 : Below U.heap.size U { U with drawn := U.drawn + 1 } := (Below.refl _ _).drew
  refine wp_region_noPanic ?_
  refine wp_region_held (S := fun w' => Below U.heap.size U w') mixed ?_
  refine wpAnyH_take (i := 0) (v := ?v1) rfl (by kernel_rfl) (by kernel_rfl) (by kernel_rfl) (fun _ _ _ h => h) (Or.inl ⟨by rfl, ?hy1⟩) hS0 ?_
  case hy1 => (intro w' hw'; have a0 := keepC hw' hp x0; have a1 := keepC hw' hp x1; have a2 := keepC hw' hp x2; have b0 := keepC hw' hp' y0; have b1 := keepC hw' hp' y1; have b2 := keepC hw' hp' y2; go_simp; try with_reducible rfl)
  simp only [List.getElem_toArray, List.getElem_cons_zero, List.getElem_cons_succ, Act.put, List.setIfInBounds_toArray, List.set_cons_zero, List.set_cons_succ]
  refine wpAnyH_take (i := 1) (v := ?v2) rfl (by kernel_rfl) (by kernel_rfl) (by kernel_rfl) (fun _ _ _ h => h) (Or.inl ⟨by rfl, ?hy2⟩) hS0 ?_
  case hy2 => (intro w' hw'; have a0 := keepC hw' hp x0; have a1 := keepC hw' hp x1; have a2 := keepC hw' hp x2; have b0 := keepC hw' hp' y0; have b1 := keepC hw' hp' y1; have b2 := keepC hw' hp' y2; go_simp; try with_reducible rfl)
  simp only [List.getElem_toArray, List.getElem_cons_zero, List.getElem_cons_succ, Act.put, List.setIfInBounds_toArray, List.set_cons_zero, List.set_cons_succ]
  refine wpAnyH_take (i := 2) (v := ?v3) rfl (by kernel_rfl) (by kernel_rfl) (by kernel_rfl) (fun _ _ _ h => h) (Or.inl ⟨by rfl, ?hy3⟩) hS0 ?_
  case hy3 => (intro w' hw'; have a0 := keepC hw' hp x0; have a1 := keepC hw' hp x1; have a2 := keepC hw' hp x2; have b0 := keepC hw' hp' y0; have b1 := keepC hw' hp' y1; have b2 := keepC hw' hp' y2; go_simp; try with_reducible rfl)
  simp only [List.getElem_toArray, List.getElem_cons_zero, List.getElem_cons_succ, Act.put, List.setIfInBounds_toArray, List.set_cons_zero, List.set_cons_succ]
  refine wpAnyH_take (i := 3) (v := ?v4) rfl (by kernel_rfl) (by kernel_rfl) (by kernel_rfl) (fun _ _ _ h => h) (Or.inl ⟨by rfl, ?hy4⟩) hS0 ?_
  case hy4 => (intro w' hw'; have a0 := keepC hw' hp x0; have a1 := keepC hw' hp x1; have a2 := keepC hw' hp x2; have b0 := keepC hw' hp' y0; have b1 := keepC hw' hp' y1; have b2 := keepC hw' hp' y2; go_simp; try with_reducible rfl)
  simp only [List.getElem_toArray, List.getElem_cons_zero, List.getElem_cons_succ, Act.put, List.setIfInBounds_toArray, List.set_cons_zero, List.set_cons_succ]
  refine wpAnyH_take (i := 4) (v := ?v5) rfl (by kernel_rfl) (by kernel_rfl) (by kernel_rfl) (fun _ _ _ h => h) (Or.inl ⟨by rfl, ?hy5⟩) hS0 ?_
  case hy5 => (intro w' hw'; have a0 := keepC hw' hp x0; have a1 := keepC hw' hp x1; have a2 := keepC hw' hp x2; have b0 := keepC hw' hp' y0; have b1 := keepC hw' hp' y1; have b2 := keepC hw' hp' y2; go_simp; try with_reducible rfl)
  simp only [List.getElem_toArray, List.getElem_cons_zero, List.getElem_cons_succ, Act.put, List.setIfInBounds_toArray, List.set_cons_zero, List.set_cons_succ]
  refine wpAnyH_take (i := 5) (v := ?v6) rfl (by kernel_rfl) (by kernel_rfl) (by kernel_rfl) (fun _ _ _ h => h) (Or.inl ⟨by rfl, ?hy6⟩) hS0 ?_
  case hy6 => (intro w' hw'; have a0 := keepC hw' hp x0; have a1 := keepC hw' hp x1; have a2 := keepC hw' hp x2; have b0 := keepC hw' hp' y0; have b1 := keepC hw' hp' y1; have b2 := keepC hw' hp' y2; go_simp; try with_reducible rfl)
  simp only [List.getElem_toArray, List.getElem_cons_zero, List.getElem_cons_succ, Act.put, List.setIfInBounds_toArray, List.set_cons_zero, List.set_cons_succ]
  refine wpAnyH_take (i := 6) (v := ?v7) rfl (by kernel_rfl) (by kernel_rfl) (by kernel_rfl) (fun _ _ _ h => h) (Or.inl ⟨by rfl, ?hy7⟩) hS0 ?_
  case hy7 => (intro w' hw'; have a0 := keepC hw' hp x0; have a1 := keepC hw' hp x1; have a2 := keepC hw' hp x2; have b0 := keepC hw' hp' y0; have b1 := keepC hw' hp' y1; have b2 := keepC hw' hp' y2; go_simp; try with_reducible rfl)
  simp only [List.getElem_toArray, List.getElem_cons_zero, List.getElem_cons_succ, Act.put, List.setIfInBounds_toArray, List.set_cons_zero, List.set_cons_succ]
  refine wpAnyH_take (i := 7) (v := ?v8) rfl (by kernel_rfl) (by kernel_rfl) (by kernel_rfl) (fun _ _ _ h => h) (Or.inl ⟨by rfl, ?hy8⟩) hS0 ?_
  case hy8 => (intro w' hw'; have a0 := keepC hw' hp x0; have a1 := keepC hw' hp x1; have a2 := keepC hw' hp x2; have b0 := keepC hw' hp' y0; have b1 := keepC hw' hp' y1; have b2 := keepC hw' hp' y2; go_simp; try with_reducible rfl)
  simp only [List.getElem_toArray, List.getElem_cons_zero, List.getElem_cons_succ, Act.put, List.setIfInBounds_toArray, List.set_cons_zero, List.set_cons_succ]
  refine wpAnyH_take (i := 8) (v := ?v9) rfl (by kernel_rfl) (by kernel_rfl) (by kernel_rfl) (fun _ _ _ h => h) (Or.inl ⟨by rfl, ?hy9⟩) hS0 ?_
  case hy9 => (intro w' hw'; have a0 := keepC hw' hp x0; have a1 := keepC hw' hp x1; have a2 := keepC hw' hp x2; have b0 := keepC hw' hp' y0; have b1 := keepC hw' hp' y1; have b2 := keepC hw' hp' y2; go_simp; try with_reducible rfl)
  simp only [List.getElem_toArray, List.getElem_cons_zero, List.getElem_cons_succ, Act.put, List.setIfInBounds_toArray, List.set_cons_zero, List.set_cons_succ]
  refine wpAnyH_take (i := 9) (v := ?v10) rfl (by kernel_rfl) (by kernel_rfl) (by kernel_rfl) (fun _ _ _ h => h) (Or.inl ⟨by rfl, ?hy10⟩) hS0 ?_
  case hy10 => (intro w' hw'; have a0 := keepC hw' hp x0; have a1 := keepC hw' hp x1; have a2 := keepC hw' hp x2; have b0 := keepC hw' hp' y0; have b1 := keepC hw' hp' y1; have b2 := keepC hw' hp' y2; go_simp; try with_reducible rfl)
  simp only [List.getElem_toArray, List.getElem_cons_zero, List.getElem_cons_succ, Act.put, List.setIfInBounds_toArray, List.set_cons_zero, List.set_cons_succ]
  refine rgn.one (i := 10) _ rfl (by kernel_rfl) (by rfl) ?_
  simp only [List.getElem_toArray, List.getElem_cons_zero, List.getElem_cons_succ, Act.put, List.setIfInBounds_toArray, List.set_cons_zero, List.set_cons_succ]
  go_wp2_with fail
  refine (unhide SF _ hS0).mono ?_
  rintro e w2 ⟨rfl, g2⟩
  have g3 := hS0.trans (g2.mono hS0.size)
  refine ⟨g3, ?_⟩
  try simp only [List.getElem_toArray, List.getElem_cons_zero, List.getElem_cons_succ, Act.put, List.setIfInBounds_toArray, List.set_cons_zero, List.set_cons_succ]
  replace hS0 := g3
  refine wpAnyH_take (i := 11) (v := ?v11) rfl (by kernel_rfl) (by kernel_rfl) (by kernel_rfl) (fun _ _ _ h => h) (Or.inl ⟨by rfl, ?hy11⟩) hS0 ?_
  case hy11 => (intro w' hw';  go_simp; try with_reducible rfl)
  simp only [List.getElem_toArray, List.getElem_cons_zero, List.getElem_cons_succ, Act.put, List.setIfInBounds_toArray, List.set_cons_zero, List.set_cons_succ]
  refine wpAnyH_take (i := 12) (v := ?v12) rfl (by kernel_rfl) (by kernel_rfl) (by kernel_rfl) (fun _ _ _ h => h) (Or.inl ⟨by rfl, ?hy12⟩) hS0 ?_
  case hy12 => (intro w' hw';  go_simp; try with_reducible rfl)
  simp only [List.getElem_toArray, List.getElem_cons_zero, List.getElem_cons_succ, Act.put, List.setIfInBounds_toArray, List.set_cons_zero, List.set_cons_succ]
  refine wpAnyH_done (by kernel_rfl) ?_ _; refine NoPanic.normal ?_
  have B3 := B2.trans (g3.mono B2.size)
  clear SF x0 x1 x2 y0 y1 y2 hS0 g2 g3 B1 B2 lo hp hp'
  go_wp2_with fail
  obtain ⟨V1, eV1⟩ : ∃ V1, V1 = w2.alloc (.cells #[Value.slice a0 n0 c0, Value.slice a1 n1 c1, Value.slice a2 n2 c2] 50) := ⟨_, rfl⟩
  have gV1 : Below w2.heap.size w2 V1 := by rw [eV1]; exact (Below.refl _ _).alloc (Nat.le_refl _) _
  have lV1 : w2.heap.size < V1.heap.size := by rw [eV1]; simp
  have pV10 : V1.cell? ⟨w2.heap.size, 0, none⟩ = some (.slice a0 n0 c0) := by rw [eV1, World.cell?_alloc_at _ _ _ _ rfl]; rfl
  have pV11 : V1.cell? ⟨w2.heap.size, 1, none⟩ = some (.slice a1 n1 c1) := by rw [eV1, World.cell?_alloc_at _ _ _ _ rfl]; rfl
  have pV12 : V1.cell? ⟨w2.heap.size, 2, none⟩ = some (.slice a2 n2 c2) := by rw [eV1, World.cell?_alloc_at _ _ _ _ rfl]; rfl
  rw [← eV1]
  clear eV1
  refine (faults3 V1 w2.heap.size a0 n0 c0 _ a1 n1 c1 _ a2 n2 c2 _ lV1 pV10 pV11 pV12 (((unhide HX).below B3).below gV1) (((unhide HY).below B3).below gV1) (((unhide HZ).below B3).below gV1) (by omega)).mono ?_
  rintro e U1 ⟨ar, nr, cr, R1, rR1, bR1, rfl, hR1, qU1⟩
  have HR1 := hide hR1
  have QR1 := hide rR1
  have gU1 : Below w2.heap.size w2 U1 := gV1.trans (qU1.mono gV1.size)
  have BU1 : Below w.heap.size w U1 := B3.trans (gU1.mono B3.size)
  clear hR1 rR1 qU1 lV1 pV10 pV11 pV12
  go_wp2_with fail
  obtain ⟨V2, eV2⟩ : ∃ V2, V2 = U1.alloc (.cells #[Value.slice a0 n0 c0, Value.slice a1 n1 c1, Value.slice a2 n2 c2] 50) := ⟨_, rfl⟩
  have gV2 : Below U1.heap.size U1 V2 := by rw [eV2]; exact (Below.refl _ _).alloc (Nat.le_refl _) _
  have lV2 : U1.heap.size < V2.heap.size := by rw [eV2]; simp
  have pV20 : V2.cell? ⟨U1.heap.size, 0, none⟩ = some (.slice a0 n0 c0) := by rw [eV2, World.cell?_alloc_at _ _ _ _ rfl]; rfl
  have pV21 : V2.cell? ⟨U1.heap.size, 1, none⟩ = some (.slice a1 n1 c1) := by rw [eV2, World.cell?_alloc_at _ _ _ _ rfl]; rfl
  have pV22 : V2.cell? ⟨U1.heap.size, 2, none⟩ = some (.slice a2 n2 c2) := by rw [eV2, World.cell?_alloc_at _ _ _ _ rfl]; rfl
  rw [← eV2]
  clear eV2
  refine (rfaults3 V2 U1.heap.size a0 n0 c0 _ a1 n1 c1 _ a2 n2 c2 _ lV2 pV20 pV21 pV22 (((unhide HX).below BU1).below gV2) (((unhide HY).below BU1).below gV2) (((unhide HZ).below BU1).below gV2) (by omega)).mono ?_
  rintro e U2 ⟨at2, ns, cs, R2, rR2, bR2, rfl, hR2, qU2⟩
  have HR2 := hide hR2
  have QR2 := hide rR2
  have gU2 : Below U1.heap.size U1 U2 := gV2.trans (qU2.mono gV2.size)
  have BU2 : Below w.heap.size w U2 := BU1.trans (gU2.mono BU1.size)
  clear hR2 rR2 qU2 lV2 pV20 pV21 pV22
  obtain rfl := rs_same (unhide QR1) (unhide QR2)
  obtain rfl : nr = ns := (unhide HR1).len.symm.trans (unhide HR2).len
  go_wp2_with fail
  refine (sameFs_true R1 ar at2 nr cr cs U2 ((unhide HR1).below gU2) (unhide HR2) (by omega)).mono ?_
  rintro e w3 ⟨rfl, qw3⟩
  have Bw3 : Below w.heap.size w w3 := BU2.trans (qw3.mono BU2.size)
  clear HR1 HR2 QR1 QR2
  go_wp2_with fail
  obtain ⟨V3, eV3⟩ : ∃ V3, V3 = w3.alloc (.cells #[Value.slice a2 n2 c2] 50) := ⟨_, rfl⟩
  have gV3 : Below w3.heap.size w3 V3 := by rw [eV3]; exact (Below.refl _ _).alloc (Nat.le_refl _) _
  have lV3 : w3.heap.size < V3.heap.size := by rw [eV3]; simp
  have pV30 : V3.cell? ⟨w3.heap.size, 0, none⟩ = some (.slice a2 n2 c2) := by rw [eV3, World.cell?_alloc_at _ _ _ _ rfl]; rfl
  rw [← eV3]
  clear eV3
  refine (faults1 V3 w3.heap.size a2 n2 c2 _ lV3 pV30 (((unhide HZ).below Bw3).below gV3) (by omega)).mono ?_
  rintro e U3 ⟨at3, n3, c3, R3, rR3, bR3, rfl, hR3, qU3⟩
  have HR3 := hide hR3
  have QR3 := hide rR3
  have gU3 : Below w3.heap.size w3 U3 := gV3.trans (qU3.mono gV3.size)
  have BU3 : Below w.heap.size w U3 := Bw3.trans (gU3.mono Bw3.size)
  clear hR3 rR3 qU3 lV3 pV30
  go_wp2_with fail
  obtain ⟨V4, eV4⟩ : ∃ V4, V4 = U3.alloc (.cells #[Value.slice a2 n2 c2] 50) := ⟨_, rfl⟩
  have gV4 : Below U3.heap.size U3 V4 := by rw [eV4]; exact (Below.refl _ _).alloc (Nat.le_refl _) _
  have lV4 : U3.heap.size < V4.heap.size := by rw [eV4]; simp
  have pV40 : V4.cell? ⟨U3.heap.size, 0, none⟩ = some (.slice a2 n2 c2) := by rw [eV4, World.cell?_alloc_at _ _ _ _ rfl]; rfl
  rw [← eV4]
  clear eV4
  refine (rfaults1 V4 U3.heap.size a2 n2 c2 _ lV4 pV40 (((unhide HZ).below BU3).below gV4) (by omega)).mono ?_
  rintro e U4 ⟨at4, n4, c4, R4, rR4, bR4, rfl, hR4, qU4⟩
  have HR4 := hide hR4
  have QR4 := hide rR4
  have gU4 : Below U3.heap.size U3 U4 := gV4.trans (qU4.mono gV4.size)
  have BU4 : Below w.heap.size w U4 := BU3.trans (gU4.mono BU3.size)
  clear hR4 rR4 qU4 lV4 pV40
  obtain rfl := rs_same (unhide QR3) (unhide QR4)
  obtain rfl : n3 = n4 := (unhide HR3).len.symm.trans (unhide HR4).len
  go_wp2_with fail
  refine (sameFs_true R3 at3 at4 n3 c3 c4 U4 ((unhide HR3).below gU4) (unhide HR4) (by omega)).mono ?_
  rintro e w4 ⟨rfl, qw4⟩
  have Bw4 : Below w.heap.size w w4 := BU4.trans (qw4.mono BU4.size)
  clear HR3 HR4 QR3 QR4
  go_wp2_with fail
  refine (faults0 w4).mono ?_
  rintro e w5 ⟨a5, n5, c5, R5, r5, b5, rfl, h5, q5⟩
  obtain rfl : n5 = 0 := by omega
  have B5 : Below w.heap.size w w5 := Bw4.trans (q5.mono Bw4.size)
  clear r5 h5 q5
  go_wp2
  go_ret
  exact ⟨rfl, B5⟩
end Go.Proofs.Ythpcpminikmcbaa.og
