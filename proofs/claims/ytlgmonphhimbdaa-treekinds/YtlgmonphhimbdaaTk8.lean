import Derived.Test.YtlgmonphhimbdaaTk7
namespace Go.Proofs.Ytlgmonphhimbdaa.knd
open Go.ChangeShapes Go.WideShapes Go.ChangeAt Go.RowKit Go.Maps Go.Shelf
open wk
attribute [local go_sem] Oper.semAt_some
set_option linter.unusedVariables false
set_option linter.unusedSimpArgs false
theorem own_shape {w : World} {base : Nat} {e : TypeId} {size : Nat} {v : Value} {n : Nat} {xs : List Value} (h : w.ownsRow base e size v (n + 1) xs) : ∃ g cap, v = .slice (some ⟨g, 0, none⟩) (n + 1) cap := by
  obtain ⟨h1, h2⟩ := h
  rcases h2 with ⟨_, h0⟩ | ⟨g, cap, cur, rfl, _⟩
  · omega
  · exact ⟨g, cap, rfl⟩
theorem all_any (F : Fence) (n : Nat) (hF : F.fn 9) (hro : F.round = none) (p : Option Addr) (w : World) :
    CallsIn F n Try.prog 9 #[.pointer p] w fun e w' => e = .returned (.func (.func 13) #[] #[.pointer (some ⟨w.heap.size, 0, none⟩)]) ∧ w' = w.alloc (.cells #[.pointer p] 48) := by
  refine callsIn_of_wp Try.func9 rfl hF ?_ hro
  simp only [Try.ntmps9, List.size_toArray, List.length_cons, List.length_nil, Nat.reduceAdd, Nat.reduceSub, Array.replicate_succ, Array.replicate_zero, List.push_toArray, List.append_toArray, List.nil_append, List.cons_append]
  gi_wp2
  go_ret
  exact ⟨rfl, rfl⟩
set_option linter.unusedSimpArgs false
abbrev Pr := Int × Int
def encP (p : Pr) : List Value := [.int .i64 p.1, .int .i64 p.2]
def flat2 (ps : List Pr) : List Value := ps.flatMap encP
theorem flat2_app (a b : List Pr) : flat2 (a ++ b) = flat2 a ++ flat2 b := by simp [flat2]
theorem flat2_cons (p : Pr) (ps : List Pr) : flat2 (p :: ps) = encP p ++ flat2 ps := by simp [flat2]
theorem flat2_len : ∀ ps : List Pr, (flat2 ps).length = ps.length * 2
  | [] => rfl
  | p :: ps => by rw [flat2_cons, List.length_append, flat2_len ps]; simp [encP]; omega
/-- a list of entries, to be read, in a block of N -/
def RL (w : World) (N : Nat → Prop) (v : Value) (ps : List Pr) : Prop :=
  ∃ a c, v = .slice a ps.length c ∧ (ps = [] ∨ ∃ p, a = some ⟨p, 0, none⟩ ∧ p < w.heap.size ∧ N p ∧ w.rangeAt p 0 (flat2 ps))
theorem RL.move {w w' : World} {N : Nat → Prop} {v : Value} {ps : List Pr} (h : RL w N v ps) (hs : w.heap.size ≤ w'.heap.size) (hb : ∀ k, k < w.heap.size → N k → w'.heap[k]? = w.heap[k]?) : RL w' N v ps := by
  obtain ⟨a, c, e, h1⟩ := h
  refine ⟨a, c, e, ?_⟩
  rcases h1 with h1 | ⟨p, e1, hp, hN, hr⟩
  · exact .inl h1
  · exact .inr ⟨p, e1, by omega, hN, ra_same (hb p hp hN) hr⟩
theorem RL.below {w w' : World} {N : Nat → Prop} {v : Value} {ps : List Pr} (h : RL w N v ps) (hb : Below w.heap.size w w') : RL w' N v ps := h.move hb.size (fun k hk _ => hb.block k hk)
theorem RL.mono {w : World} {N N' : Nat → Prop} {v : Value} {ps : List Pr} (h : RL w N v ps) (hn : ∀ k, k < w.heap.size → N k → N' k) : RL w N' v ps := by
  obtain ⟨a, c, e, h1⟩ := h
  refine ⟨a, c, e, ?_⟩
  rcases h1 with h1 | ⟨p, e1, hp, hN, hr⟩
  · exact .inl h1
  · exact .inr ⟨p, e1, hp, hn p hp hN, hr⟩
theorem rl_cells {w : World} {g : Nat} {ps : List Pr} {i : Nat} {p : Pr} (h : w.rangeAt g 0 (flat2 ps)) (hp : ps[i]? = some p) : w.cell? ⟨g, i * 2, none⟩ = some (.int .i64 p.1) ∧ w.cell? ⟨g, i * 2 + 1, none⟩ = some (.int .i64 p.2) := by
  obtain ⟨hl, e⟩ := List.getElem?_eq_some_iff.1 hp
  have es : ps = ps.take i ++ p :: ps.drop (i + 1) := by rw [← e, ← List.drop_eq_getElem_cons hl, List.take_append_drop]
  rw [es, flat2_app, flat2_cons, ra_app, ra_app] at h
  have h2 := h.2.1
  rw [flat2_len, List.length_take, Nat.min_eq_left (by omega), Nat.zero_add] at h2
  exact ⟨h2 0 _ rfl, h2 1 _ rfl⟩
theorem rl_own {w : World} {base : Nat} {e : TypeId} {v : Value} {n : Nat} {ps : List Pr} (h : w.ownsRow base e 2 v n (flat2 ps)) : RL w (fun k => base ≤ k) v ps := by
  obtain ⟨h1, h2⟩ := h
  have hn : n = ps.length := by rw [flat2_len] at h1; omega
  subst hn
  rcases h2 with ⟨rfl, h0⟩ | ⟨g, cap, cur, rfl, hb, hg, hc, hm, hs, ht⟩
  · exact ⟨none, 0, by rw [h0], .inl (List.eq_nil_of_length_eq_zero h0)⟩
  · refine ⟨_, cap, rfl, .inr ⟨g, rfl, (Array.getElem?_eq_some_iff.1 hg).1, hb, ?_⟩⟩
    intro j u hu
    rw [cell_of_row w g (0 + j) cur e (0, 0) hg, Nat.zero_add]
    rw [← ht, List.getElem?_take] at hu
    split at hu
    · simpa using hu
    · cases hu
theorem own_bel {w w' : World} {base : Nat} {e : TypeId} {size n : Nat} {v : Value} {xs : List Value} (h : w.ownsRow base e size v n xs) (hb : Below w.heap.size w w') : w'.ownsRow base e size v n xs := by
  refine ⟨h.1, ?_⟩
  rcases h.2 with h1 | ⟨g', cap, cur, h1, h2, h3, h4⟩
  · exact .inl h1
  · exact .inr ⟨g', cap, cur, h1, h2, (hb.block g' (Array.getElem?_eq_some_iff.1 h3).1).trans h3, h4⟩
theorem infoP : (Try.prog.info? 34).map (fun i => (i.zero, i.size, i.bytes)) = some (some (.agg #[.int .i64 0, .int .i64 0]), 2, 16) := by kernel_rfl
theorem cells2 (w : World) (x y : Value) (t : TypeId) : ∀ j u, [x, y][j]? = some u → (w.alloc (.cells #[x, y] t)).cell? ((⟨w.heap.size, 0, none⟩ : Addr).add j) = some u := by
  intro j u hj
  match j, hj with
  | 0, hj => simp at hj; subst hj; simp [Addr.add]
  | 1, hj => simp at hj; subst hj; simp [Addr.add]
  | (j + 2), hj => simp at hj
def hasP (ps : List Pr) (k : Int) : Bool := ps.any (fun p => p.1 == k)
def setP (k v : Int) (p : Pr) : Pr := if p.1 = k then (p.1, v) else p
/-- the list behind a Put, and behind a Drop -/
def putP (ps : List Pr) (k v : Int) : List Pr := if hasP ps k then ps.map (setP k v) else ps ++ [(k, v)]
def drpP (ps : List Pr) (k : Int) : List Pr := ps.filter (fun p => p.1 != k)
def getP' (ps : List Pr) (k : Int) : Option Int := (ps.find? (fun p => p.1 == k)).map (·.2)
theorem take_map1 {ps : List Pr} {i : Nat} {p : Pr} (f : Pr → Pr) (h : ps[i]? = some p) : (ps.take (i + 1)).map f = (ps.take i).map f ++ [f p] := by rw [List.take_add_one, h]; simp
theorem take_any1 {ps : List Pr} {i : Nat} {p : Pr} {k : Int} (h : ps[i]? = some p) : hasP (ps.take (i + 1)) k = (hasP (ps.take i) k || p.1 == k) := by rw [List.take_add_one, h]; simp [hasP]
theorem map_none {ps : List Pr} {k v : Int} (h : hasP ps k = false) : ps.map (setP k v) = ps := by
  unfold hasP at h
  rw [List.any_eq_false] at h
  conv => rhs; rw [← List.map_id ps]
  refine List.map_congr_left fun p hp => ?_
  have : ¬ p.1 = k := by simpa using h p hp
  simp [setP, this]
def PpPost (ps : List Pr) (k v : Int) (w : World) (e : Ending) (w' : World) : Prop := ∃ v', e = .returned (.tuple #[v', .bool (!hasP ps k)]) ∧ RL w' (fun j => w.heap.size ≤ j) v' (putP ps k v) ∧ Below w.heap.size w w'
theorem bel1 (w : World) (o : Obj) : Below w.heap.size w (w.alloc o) := (Below.refl _ _).alloc (Nat.le_refl _) _
theorem own_ge {w : World} {base : Nat} {e : TypeId} {size n q : Nat} {v : Value} {xs : List Value} (h : w.ownsRow base e size v n xs) (hq : v.ownBlock = some q) : base ≤ q := by
  rcases h.2 with ⟨rfl, -⟩ | ⟨g, cap, cur, rfl, h2, -⟩
  · cases hq
  · cases hq; exact h2
theorem bel2 (w : World) (o o' : Obj) : Below w.heap.size w ((w.alloc o).alloc o') := ((Below.refl _ _).alloc (Nat.le_refl _) _).alloc (by simp) _
theorem cc2 (w : World) (o : Obj) (x y : Value) (t : TypeId) : ∀ j u, [x, y][j]? = some u → ((w.alloc o).alloc (.cells #[x, y] t)).cell? ((⟨w.heap.size + 1, 0, none⟩ : Addr).add j) = some u := by
  have := cells2 (w.alloc o) x y t
  rwa [World.size_alloc] at this
theorem rput_next {ps : List Pr} {i : Nat} {k v x y y' : Int} {a : List Value} (h : (ps.take (i + 1)).map (setP k v) = (ps.take i).map (setP k v) ++ [setP k v (x, y)]) (hy : setP k v (x, y) = (x, y')) : flat2 ((ps.take (i + 1)).map (setP k v)) = flat2 ((ps.take i).map (setP k v)) ++ [.int .i64 x, .int .i64 y'] := by
  rw [h, hy, flat2_app]
  rfl
set_option maxHeartbeats 1000000 in
set_option maxRecDepth 6000 in
theorem rput_ok (w : World) (N : Nat → Prop) (u : Value) (ps : List Pr) (k v : Int) (h : RL w N u ps) (hn : ps.length ≤ 1099511627776) : Calls Try.prog 6 #[u, .int .i64 k, .int .i64 v] w (PpPost ps k v w) := by
  obtain ⟨i0, hi0, hz0, hz1, hz2⟩ := info_parts infoP
  obtain ⟨a, c, rfl, h1⟩ := h
  obtain ⟨n, hn'⟩ : ∃ n, n = ps.length := ⟨_, rfl⟩
  have hnb : n ≤ 1099511627776 := by omega
  rw [← hn']
  have HL := hide hn'
  have H1 := hide h1
  clear hn' hn h1
  go_enter Try.func6, Try.ntmps6
  go_wp2_with fail
  go_loopw [8, 9, 10] (fun vo vh vi wr => ∃ (i : Nat) (b : Bool) (ao : Option Addr) (co : Nat), i ≤ n ∧ vi = .int .i64 i ∧ vh = .bool b ∧ vo = .slice ao i co ∧ Hid (b = hasP (ps.take i) k) ∧ wr.ownsRow w.heap.size 34 2 (.slice ao i co) i (flat2 ((ps.take i).map (setP k v))) ∧ Below w.heap.size w wr) (fun _ _ vi _ => n - (intOf vi).toNat)
  case atStart => exact ⟨0, false, none, 0, Nat.zero_le _, rfl, rfl, rfl, hide rfl, World.ownsRow_nil _ _ _ _, Below.refl _ _⟩
  case round =>
    obtain ⟨i, b, ao, co, hi, rfl, rfl, rfl, hb, hown, bw⟩ := hrel
    by_cases hlt : i < n
    · have ki : (i : Int) < (n : Int) := by omega
      obtain ⟨p, hp⟩ : ∃ p, ps[i]? = some p := ⟨_, List.getElem?_eq_getElem (by rw [← unhide HL]; exact hlt)⟩
      rcases unhide H1 with h0 | ⟨g, rfl, hg, hN, hr⟩
      · rw [h0] at hp; cases hp
      obtain ⟨z0, z1⟩ := rl_cells (ra_same (bw.block g hg) hr) hp
      have e1 := hide (take_map1 (setP k v) hp)
      have e2 := hide (take_any1 (k := k) hp)
      obtain ⟨x, y⟩ := p
      simp only at z0 z1
      clear hp hr
      have sw := bw.size
      by_cases hx : x = k
      · subst hx
        have eN := hide (rput_next (a := []) (unhide e1) (show setP x v (x, y) = (x, v) by simp [setP]))
        have eB := hide (show true = hasP (ps.take (i + 1)) x by rw [unhide e2]; simp)
        clear e1 e2 hb
        go_wp2_with (at_builtin; refine wpList_append_own _ rfl _ _ 35 rfl w.heap.size 34 i0 _ 2 16 Try.underlying35 hi0 hz0 hz1 hz2 rfl (by decide) _ _ _ rfl (own_bel hown (bel2 _ _ _)) ⟨wr.heap.size + 1, 0, none⟩ 1 1 [.int .i64 x, .int .i64 v] rfl rfl (cc2 _ _ _ _ _) (by simp [Value.oneCell']) (by unfold maxLen; omega) (by omega) (by simp; omega) ?_; intro vo' w' ho' hg' hn'; obtain ⟨g', cap', rfl⟩ := own_shape ho'; clear hn')
        go_roundw
        case rel => exact ⟨i + 1, true, _, cap', by omega, by go_num, rfl, rfl, eB, by rw [unhide eN]; exact ho', bw.trans ((((((Below.refl _ _).alloc sw _).alloc (by simp; omega) _).grown hg' (by simp; omega) (fun q hq => own_ge hown hq))))⟩
        case measure => simp [intOf]; omega
      · have hx' : (x == k) = false := by simpa using hx
        have eN := hide (rput_next (a := []) (unhide e1) (show setP k v (x, y) = (x, y) by simp [setP, hx]))
        have eB := hide (show b = hasP (ps.take (i + 1)) k by rw [unhide e2, ← unhide hb]; simp [hx])
        clear e1 e2 hb
        go_wp2_with (at_builtin; refine wpList_append_own _ rfl _ _ 35 rfl w.heap.size 34 i0 _ 2 16 Try.underlying35 hi0 hz0 hz1 hz2 rfl (by decide) _ _ _ rfl (own_bel hown (bel2 _ _ _)) ⟨wr.heap.size + 1, 0, none⟩ 1 1 [.int .i64 x, .int .i64 y] rfl rfl (cc2 _ _ _ _ _) (by simp [Value.oneCell']) (by unfold maxLen; omega) (by omega) (by simp; omega) ?_; intro vo' w' ho' hg' hn'; obtain ⟨g', cap', rfl⟩ := own_shape ho'; clear hn')
        go_roundw
        case rel => exact ⟨i + 1, b, _, cap', by omega, by go_num, rfl, rfl, eB, by rw [unhide eN]; exact ho', bw.trans ((((((Below.refl _ _).alloc sw _).alloc (by simp; omega) _).grown hg' (by simp; omega) (fun q hq => own_ge hown hq))))⟩
        case measure => simp [intOf]; omega
    · obtain rfl : i = n := by omega
      have ki : ¬ (i : Int) < (i : Int) := by omega
      have et : ps.take i = ps := List.take_of_length_le (by rw [← unhide HL]; exact Nat.le_refl _)
      rw [et] at hb hown
      have sw := bw.size
      cases b
      · have hp := hide (show putP ps k v = ps.map (setP k v) ++ [(k, v)] by rw [putP, ← unhide hb, map_none (unhide hb).symm]; rfl)
        go_wp2_with (at_builtin; refine wpList_append_own _ rfl _ _ 35 rfl w.heap.size 34 i0 _ 2 16 Try.underlying35 hi0 hz0 hz1 hz2 rfl (by decide) _ _ _ rfl (own_bel hown (bel1 _ _)) ⟨wr.heap.size, 0, none⟩ 1 1 [.int .i64 k, .int .i64 v] rfl rfl (cells2 _ _ _ _) (by simp [Value.oneCell']) (by unfold maxLen; omega) (by omega) (by simp; omega) ?_; intro vo' w' ho' hg' hn'; obtain ⟨g', cap', rfl⟩ := own_shape ho'; clear hn')
        go_ret2
        refine ⟨_, by rw [← unhide hb]; rfl, ?_, bw.trans (((((Below.refl _ _).alloc sw _).grown hg' (by simp; omega) (fun q hq => own_ge hown hq))))⟩
        rw [unhide hp]
        exact (rl_own (by rw [flat2_app]; exact ho')).mono (fun j _ hj => hj)
      · have hp := hide (show putP ps k v = ps.map (setP k v) by rw [putP, ← unhide hb]; rfl)
        go_wp2
        go_ret2
        refine ⟨_, by rw [← unhide hb]; rfl, ?_, bw⟩
        rw [unhide hp]
        exact rl_own hown
theorem get_here {ps : List Pr} {i : Nat} {p : Pr} {k : Int} (hp : ps[i]? = some p) (hb : hasP (ps.take i) k = false) (hk : p.1 = k) : getP' ps k = some p.2 := by
  obtain ⟨hl, e⟩ := List.getElem?_eq_some_iff.1 hp
  have es : ps = ps.take i ++ p :: ps.drop (i + 1) := by rw [← e, ← List.drop_eq_getElem_cons hl, List.take_append_drop]
  unfold getP'
  rw [es, List.find?_append]
  have : (ps.take i).find? (fun p => p.1 == k) = none := by
    rw [List.find?_eq_none]
    unfold hasP at hb
    rw [List.any_eq_false] at hb
    exact hb
  rw [this, List.find?_cons, show (p.1 == k) = true by simpa using hk]
  rfl
theorem get_nowhere {ps : List Pr} {k : Int} (hb : hasP ps k = false) : getP' ps k = none := by
  unfold getP'
  rw [List.find?_eq_none.2]
  · rfl
  · unfold hasP at hb
    rw [List.any_eq_false] at hb
    exact hb
set_option maxRecDepth 6000 in
theorem rget_ok (w : World) (N : Nat → Prop) (u : Value) (ps : List Pr) (k : Int) (h : RL w N u ps) (hn : ps.length ≤ 1099511627776) : Calls Try.prog 7 #[u, .int .i64 k] w fun e w' => e = .returned (.tuple #[.int .i64 ((getP' ps k).getD 0), .bool (getP' ps k).isSome]) ∧ Below w.heap.size w w' := by
  obtain ⟨a, c, rfl, h1⟩ := h
  obtain ⟨n, hn'⟩ : ∃ n, n = ps.length := ⟨_, rfl⟩
  have hnb : n ≤ 1099511627776 := by omega
  rw [← hn']
  have HL := hide hn'
  have H1 := hide h1
  clear hn' hn h1
  go_enter Try.func7, Try.ntmps7
  go_wp2_with fail
  go_loopw [6] (fun vi wr => ∃ (i : Nat), i ≤ n ∧ vi = .int .i64 i ∧ Hid (hasP (ps.take i) k = false) ∧ Below w.heap.size w wr) (fun vi _ => n - (intOf vi).toNat)
  case atStart => exact ⟨0, Nat.zero_le _, rfl, hide rfl, Below.refl _ _⟩
  case round =>
    obtain ⟨i, hi, rfl, hb, bw⟩ := hrel
    by_cases hlt : i < n
    · have ki : (i : Int) < (n : Int) := by omega
      obtain ⟨p, hp⟩ : ∃ p, ps[i]? = some p := ⟨_, List.getElem?_eq_getElem (by rw [← unhide HL]; exact hlt)⟩
      rcases unhide H1 with h0 | ⟨g, rfl, hg, hN, hr⟩
      · rw [h0] at hp; cases hp
      obtain ⟨z0, z1⟩ := rl_cells (ra_same (bw.block g hg) hr) hp
      have e2 := hide (take_any1 (k := k) hp)
      by_cases hx : p.1 = k
      · have eG := hide (get_here hp (unhide hb) hx)
        obtain ⟨x, y⟩ := p
        simp only at z0 z1 hx
        subst hx
        clear hp hr e2 hb
        go_wp2
        go_ret2
        rw [unhide eG]
        exact ⟨rfl, bw⟩
      · have eB := hide (show hasP (ps.take (i + 1)) k = false by rw [unhide e2, unhide hb]; simpa using hx)
        obtain ⟨x, y⟩ := p
        simp only at z0 z1 hx
        have hx' : (x == k) = false := by simpa using hx
        clear hp hr e2 hb
        go_wp2
        go_roundw
        case rel => exact ⟨i + 1, by omega, by go_num, eB, bw⟩
        case measure => simp [intOf]; omega
    · obtain rfl : i = n := by omega
      have ki : ¬ (i : Int) < (i : Int) := by omega
      have eG := hide (get_nowhere (by rw [← unhide hb, List.take_of_length_le (by rw [← unhide HL]; exact Nat.le_refl _)] : hasP ps k = false))
      clear hb
      go_wp2
      go_ret2
      rw [unhide eG]
      exact ⟨rfl, bw⟩
end Go.Proofs.Ytlgmonphhimbdaa.knd
