import Derived.Test.YtiblkdedbimggaaTeq5
import Derived.Test.YtiblkdedbimggaaTeq4
import Derived.RangeFuncNested
import Derived.RangeFuncBound
import Derived.RangeFuncCalls
import Derived.RangeFuncLeaves
import Derived.Shelf.Abstract
import Derived.Shelf.RegionOpen
import Derived.OwnWalkIn
import Derived.TacticsInMore
import Derived.LoopNIn
import Derived.LoopIn
import Derived.Lib.MinMax
import Derived.Test.YtiblkdedbimggaaTeq7
namespace Go.Proofs.Ytiblkdedbimggaa.og
open Go.ChangeShapes Go.WideShapes Go.ChangeAt Go.RowKit Go.Shelf
open vl hiding cB cFl cS cF cI cK cIt
open stp (c3 c3_lt c3_gt c3_eq cB cB_tri St)
attribute [local go_sem] Oper.semAt_some
set_option linter.unusedVariables false
set_option linter.unusedSimpArgs false
/-- a value's children, each with the step to it -/
def kids : Vl → List (St × Vl)
  | .mk kd _ _ _ _ _ its fls => if kd = 5 then its.list.zipIdx.map (fun p => (⟨⟨#[]⟩, (p.2 : Int), true⟩, p.1)) else if kd = 6 then fls.list.map (fun q => (⟨q.1, 0, false⟩, q.2)) else []
/-- a child as it is handed to yield: it can be read in w0 -/
def Kid (w0 : World) (ks : List (St × Vl)) : Type := { x : St × Vl × List Value // VlC w0 x.2.1 x.2.2 ∧ (x.1, x.2.1) ∈ ks }
def Kid.sv {w0 : World} {ks : List (St × Vl)} (x : Kid w0 ks) : St × Vl := (x.1.1, x.1.2.1)
def Kid.enc {w0 : World} {ks : List (St × Vl)} (x : Kid w0 ks) : Array Value := #[.agg #[.string x.1.1.nm, .int .i64 x.1.1.ix, .bool x.1.1.it], .agg x.1.2.2.toArray]
theorem take_map_snoc {w0 : World} {ks l : List (St × Vl)} {pre : List (Kid w0 ks)} {k : Nat} {x : Kid w0 ks} (h : pre.map Kid.sv = l.take k) (hx : l[k]? = some x.sv) : (pre ++ [x]).map Kid.sv = l.take (k + 1) := by
  rw [List.map_append, h, List.take_add_one, hx]
  rfl
theorem pre_len {w0 : World} {ks l : List (St × Vl)} {pre : List (Kid w0 ks)} {k : Nat} (h : pre.map Kid.sv = l.take k) (hk : k < l.length) : pre.length < l.length := by
  have := congrArg List.length h
  simp at this
  omega
theorem kids_list (b : Bool) (n : Int) (f : Nat) (tx ty : ByteArray) (its : Vls) (fls : Fls) : kids (.mk 5 b n f tx ty its fls) = its.list.zipIdx.map (fun p => (⟨⟨#[]⟩, (p.2 : Int), true⟩, p.1)) := by simp [kids]
theorem kids_obj (b : Bool) (n : Int) (f : Nat) (tx ty : ByteArray) (its : Vls) (fls : Fls) : kids (.mk 6 b n f tx ty its fls) = fls.list.map (fun q => (⟨q.1, 0, false⟩, q.2)) := by simp [kids]
theorem kids_none {kd : Int} (h5 : kd ≠ 5) (h6 : kd ≠ 6) (b : Bool) (n : Int) (f : Nat) (tx ty : ByteArray) (its : Vls) (fls : Fls) : kids (.mk kd b n f tx ty its fls) = [] := by simp [kids, h5, h6]
theorem keepC' {w w' : World} {b o : Nat} {u : Value} (h : Below w.heap.size w w') (hc : w.cell? ⟨b, o, none⟩ = some u) : w'.cell? ⟨b, o, none⟩ = some u := keepC h (World.block_lt_of_cell? w _ hc) hc
theorem children_in (F : Fence) (n : Nat) (hF : F.fn 31) (hro : F.round = none) (cs : List Value) (w : World) :
    CallsIn F n Try.prog 31 #[.agg cs.toArray] w fun e w' => e = .returned (.func (.func 56) #[] #[.pointer (some ⟨w.heap.size, 0, none⟩)]) ∧ w' = w.alloc (.cells cs.toArray 27) := by
  refine callsIn_of_wp Try.func31 rfl hF ?_ hro
  simp only [Try.ntmps31, List.size_toArray, List.length_cons, List.length_nil, Nat.reduceAdd, Nat.reduceSub, Array.replicate_succ, Array.replicate_zero, List.push_toArray, List.append_toArray, List.nil_append, List.cons_append]
  gi_wp2
  go_ret
  exact ⟨rfl, rfl⟩
set_option maxRecDepth 100000 in
set_option maxHeartbeats 4000000 in
theorem kids1_in (F : Fence) (n : Nat) (hF : F.fn 56) (hro : F.round = none) (hn : 1 ≤ n) (l Bv : Nat) (w0 : World) (v : Vl) (cs : List Value) (hv : VlC w0 v cs) (hsm : Small v) (ks : List (St × Vl)) (hks : kids v = ks) (J Jx : List (Kid w0 ks) → World → Prop)
    (B : Nat) (hJ : AbidesFrom B J) (hY : ∀ pre x W, J pre W → pre.length < ks.length → YieldAt F (n - 1) Try.prog l (Kid.enc x) W fun e W' =>
      (e = .returned (.bool true) ∧ J (pre ++ [x]) W' ∧ Below w0.heap.size W W') ∨ (e = .returned (.bool false) ∧ Jx (pre ++ [x]) W'))
    (W : World) (h0W : Below w0.heap.size w0 W) (hr : W.rangeAt Bv 0 cs) (h0 : J [] W) :
    CallsIn F n Try.prog 56 #[.func (.yield l) #[] #[], .pointer (some ⟨Bv, 0, none⟩)] W fun e W' => (∃ v, e = .returned v) ∧
      ((∃ xs : List (Kid w0 ks), xs.map Kid.sv = ks ∧ J xs W') ∨ (∃ pre : List (Kid w0 ks), (∃ k, k ≤ ks.length ∧ pre.map Kid.sv = ks.take k) ∧ Jx pre W')) := by
  obtain ⟨kd, b, m, f, tx, ty, its, fls⟩ := v
  unfold VlC at hv
  obtain ⟨ai, ni, ci, af, nf, cf, rfl, hI, hFl, hni, hnf, -, -, -, -, -, -, hci, hcf⟩ := hv
  unfold Small at hsm
  obtain ⟨hlI, hlF, -⟩ := hsm
  have bI : ni ≤ 1256584717458 := by rw [← VlsAt.len its _ _ hI]; exact hlI
  have bF : nf ≤ 1099511627776 := by rw [← FlsAt.len fls _ _ hFl]; exact hlF
  clear hlI hlF hni hnf hci hcf
  have x0 : W.cell? ⟨Bv, 0, none⟩ = some (.int .i64 kd) := hr 0 _ rfl
  have x6 : W.cell? ⟨Bv, 6, none⟩ = some (.slice ai ni ci) := hr 6 _ rfl
  have x7 : W.cell? ⟨Bv, 7, none⟩ = some (.slice af nf cf) := hr 7 _ rfl
  clear hr
  refine callsIn_of_wp Try.func56 rfl hF ?_ hro
  simp only [Try.ntmps56, List.size_toArray, List.length_cons, List.length_nil, Nat.reduceAdd, Nat.reduceSub, Array.replicate_succ, Array.replicate_zero, List.push_toArray, List.append_toArray, List.nil_append, List.cons_append]
  by_cases h5 : kd = 5
  · subst h5
    have hkl := VlsAt.len its _ _ hI
    have KL := hide (show ks.length = ni by rw [← hks, kids_list]; simp [hkl])
    have KK := hide (show ∀ (k : Nat) (u : Vl), its.list[k]? = some u → ks[k]? = some (⟨⟨#[]⟩, (k : Int), true⟩, u) from fun k u hu => by rw [← hks, kids_list]; simp [List.getElem?_zipIdx, hu])
    clear hkl hks
    gi_wp2
    gi_loopw [14] (fun i wr => ∃ (k : Nat) (pre : List (Kid w0 ks)), k ≤ ni ∧ i = .int .i64 k ∧ vl.Hid (pre.map Kid.sv = ks.take k) ∧ J pre wr ∧ Below w0.heap.size w0 wr) (fun i _ => ni - (intOf i).toNat)
    case atStart => exact ⟨0, [], Nat.zero_le _, rfl, hide (by simp), h0, h0W⟩
    case round =>
      obtain ⟨k, pre, hk, rfl, hp, hJs, hnx⟩ := hrel
      by_cases hlt : k < ni
      · have ki : (k : Int) < (ni : Int) := by omega
        obtain ⟨p, off, u, us, rfl, hg, hrow, hu⟩ := VlsAt.get its _ _ hI k hlt
        have hu' := hu
        obtain ⟨ukd, ub, um, uf, utx, uty, uits, ufls⟩ := u
        unfold VlC at hu'
        obtain ⟨uai, uni, uci, uaf, unf, ucf, rfl, -⟩ := hu'
        obtain ⟨z0, z1, z2, z3, z4, z5, z6, z7⟩ := Row8.eight (Row8.below hrow hnx)
        clear hrow
        obtain ⟨x, hx⟩ : ∃ x : Kid w0 ks, x.1 = (⟨⟨#[]⟩, (k : Int), true⟩, .mk ukd ub um uf utx uty uits ufls, [.int .i64 ukd, .bool ub, .int .i64 um, .float .f64 uf, .string utx, .string uty, .slice uai uni uci, .slice uaf unf ucf]) := ⟨⟨_, hu, List.mem_of_getElem? (unhide KK k _ hg)⟩, rfl⟩
        have hsv : x.sv = (⟨⟨#[]⟩, (k : Int), true⟩, .mk ukd ub um uf utx uty uits ufls) := by unfold Kid.sv; rw [hx]
        have henc : x.enc = #[.agg #[.string ⟨#[]⟩, .int .i64 (k : Int), .bool true], .agg #[.int .i64 ukd, .bool ub, .int .i64 um, .float .f64 uf, .string utx, .string uty, .slice uai uni uci, .slice uaf unf ucf]] := by unfold Kid.enc; rw [hx]
        have hnext := hide (take_map_snoc (unhide hp) (by rw [hsv]; exact unhide KK k _ hg))
        obtain ⟨fn, tmps, assign, body, hy, hR⟩ := hY pre x (wr.alloc (.cells #[.int .i64 ukd, .bool ub, .int .i64 um, .float .f64 uf, .string utx, .string uty, .slice uai uni uci, .slice uaf unf ucf] 27)) (hJ _ _ _ none hJs (World.grownBy_alloc _ _ none) (fun r e => by cases e)) (pre_len (unhide hp) (by rw [unhide KL]; exact hlt))
        rw [henc] at hy
        have b3 : Below w0.heap.size w0 (wr.alloc (.cells #[.int .i64 ukd, .bool ub, .int .i64 um, .float .f64 uf, .string utx, .string uty, .slice uai uni uci, .slice uaf unf ucf] 27)) := hnx.alloc hnx.size _
        have B3 := hide b3
        have HR := hide hR
        have HG := hide hg
        clear hx hsv henc hg hu hY b3 hR x0 x6 x7
        have hsf := storeF
        gi_wp2
        clear hsf
        refine (unhide HR).mono ?_
        rintro e W3 (⟨rfl, hJ3, hk3⟩ | ⟨rfl, hJx3⟩)
        · gi_wp2
          go_roundw
          case rel => exact ⟨k + 1, _, by omega, by simp, hnext, hJ3, (unhide B3).trans hk3⟩
          case measure => simp [intOf]; omega
        · gi_wp2
          refine bodyPost_ret (results_none rfl _ _ _) rfl ?_
          exact ⟨⟨_, rfl⟩, .inr ⟨_, ⟨k + 1, by rw [unhide KL]; omega, unhide hnext⟩, hJx3⟩⟩
      · obtain rfl : k = ni := by omega
        gi_wp2
        go_end0
        refine ⟨⟨_, rfl⟩, .inl ⟨_, ?_, hJs⟩⟩
        have := unhide hp
        rwa [List.take_of_length_le (Nat.le_of_eq (unhide KL))] at this
  · by_cases h6 : kd = 6
    · subst h6
      have hkl := FlsAt.len fls _ _ hFl
      have KL := hide (show ks.length = nf by rw [← hks, kids_obj]; simp [hkl])
      have KK := hide (show ∀ (k : Nat) (nm : ByteArray) (u : Vl), fls.list[k]? = some (nm, u) → ks[k]? = some (⟨nm, 0, false⟩, u) from fun k nm u hu => by rw [← hks, kids_obj]; simp [hu])
      clear hkl hks
      gi_wp2
      gi_loopw [31] (fun i wr => ∃ (k : Nat) (pre : List (Kid w0 ks)), k ≤ nf ∧ i = .int .i64 k ∧ vl.Hid (pre.map Kid.sv = ks.take k) ∧ J pre wr ∧ Below w0.heap.size w0 wr) (fun i _ => nf - (intOf i).toNat)
      case atStart => exact ⟨0, [], Nat.zero_le _, rfl, hide (by simp), h0, h0W⟩
      case round =>
        obtain ⟨k, pre, hk, rfl, hp, hJs, hnx⟩ := hrel
        by_cases hlt : k < nf
        · have ki : (k : Int) < (nf : Int) := by omega
          obtain ⟨p, off, nm, u, us, rfl, hg, hn0, -, hrow, hu⟩ := FlsAt.get fls _ _ hFl k hlt
          have hu' := hu
          obtain ⟨ukd, ub, um, uf, utx, uty, uits, ufls⟩ := u
          unfold VlC at hu'
          obtain ⟨uai, uni, uci, uaf, unf, ucf, rfl, -⟩ := hu'
          obtain ⟨z0, z1, z2, z3, z4, z5, z6, z7⟩ := Row8.eight (Row8.below hrow hnx)
          have zn := keepC' hnx hn0
          clear hrow hn0
          obtain ⟨x, hx⟩ : ∃ x : Kid w0 ks, x.1 = (⟨nm, 0, false⟩, .mk ukd ub um uf utx uty uits ufls, [.int .i64 ukd, .bool ub, .int .i64 um, .float .f64 uf, .string utx, .string uty, .slice uai uni uci, .slice uaf unf ucf]) := ⟨⟨_, hu, List.mem_of_getElem? (unhide KK k nm _ hg)⟩, rfl⟩
          have hsv : x.sv = (⟨nm, 0, false⟩, .mk ukd ub um uf utx uty uits ufls) := by unfold Kid.sv; rw [hx]
          have henc : x.enc = #[.agg #[.string nm, .int .i64 0, .bool false], .agg #[.int .i64 ukd, .bool ub, .int .i64 um, .float .f64 uf, .string utx, .string uty, .slice uai uni uci, .slice uaf unf ucf]] := by unfold Kid.enc; rw [hx]
          have hnext := hide (take_map_snoc (unhide hp) (by rw [hsv]; exact unhide KK k nm _ hg))
          obtain ⟨fn, tmps, assign, body, hy, hR⟩ := hY pre x (wr.alloc (.cells #[.string nm, .int .i64 ukd, .bool ub, .int .i64 um, .float .f64 uf, .string utx, .string uty, .slice uai uni uci, .slice uaf unf ucf] 47)) (hJ _ _ _ none hJs (World.grownBy_alloc _ _ none) (fun r e => by cases e)) (pre_len (unhide hp) (by rw [unhide KL]; exact hlt))
          rw [henc] at hy
          have b3 : Below w0.heap.size w0 (wr.alloc (.cells #[.string nm, .int .i64 ukd, .bool ub, .int .i64 um, .float .f64 uf, .string utx, .string uty, .slice uai uni uci, .slice uaf unf ucf] 47)) := hnx.alloc hnx.size _
          have B3 := hide b3
          have HR := hide hR
          have HG := hide hg
          clear hx hsv henc hg hu hY b3 hR x0 x6 x7
          have hsf := storeF
          gi_wp2
          clear hsf
          refine (unhide HR).mono ?_
          rintro e W3 (⟨rfl, hJ3, hk3⟩ | ⟨rfl, hJx3⟩)
          · gi_wp2
            go_roundw
            case rel => exact ⟨k + 1, _, by omega, by simp, hnext, hJ3, (unhide B3).trans hk3⟩
            case measure => simp [intOf]; omega
          · gi_wp2
            refine bodyPost_ret (results_none rfl _ _ _) rfl ?_
            exact ⟨⟨_, rfl⟩, .inr ⟨_, ⟨k + 1, by rw [unhide KL]; omega, unhide hnext⟩, hJx3⟩⟩
        · obtain rfl : k = nf := by omega
          gi_wp2
          go_end0
          refine ⟨⟨_, rfl⟩, .inl ⟨_, ?_, hJs⟩⟩
          have := unhide hp
          rwa [List.take_of_length_le (Nat.le_of_eq (unhide KL))] at this
    · have hq5 : (kd == 5) = false := by simpa using h5
      have hq6 : (kd == 6) = false := by simpa using h6
      have HK := hide (hks.symm.trans (kids_none h5 h6 b m f tx ty its fls))
      gi_wp2
      go_end0
      exact ⟨⟨_, rfl⟩, .inl ⟨[], by rw [unhide HK]; rfl, h0⟩⟩
end Go.Proofs.Ytiblkdedbimggaa.og
namespace Go.Proofs.Ytiblkdedbimggaa.og
open Go.ChangeShapes Go.WideShapes Go.ChangeAt Go.RowKit Go.Shelf
open vl hiding cB cFl cS cF cI cK cIt
open stp (c3 c3_lt c3_gt c3_eq cB cB_tri St)
attribute [local go_sem] Oper.semAt_some
set_option linter.unusedVariables false
set_option linter.unusedSimpArgs false
theorem kids_stops (F : Fence) (n : Nat) (hF : F.fn 56) (hro : F.round = none) (hn : 1 ≤ n) (Bv : Nat) (w0 : World) (v : Vl) (cs : List Value) (hv : VlC w0 v cs) (hsm : Small v) (w : World) (h0w : Below w0.heap.size w0 w) (hB : Bv < w.heap.size) (hr : w.rangeAt Bv 0 cs) :
    SeqStopsK F n Try.prog 56 #[.pointer (some ⟨Bv, 0, none⟩)] (Kid.enc (w0 := w0) (ks := kids v)) (Below w0.heap.size) (fun xs => xs.map Kid.sv = kids v) (fun pre => ∃ k, k ≤ (kids v).length ∧ pre.map Kid.sv = (kids v).take k) (kids v).length w :=
  fun l J Jx W hW hJ hJx hY h0 => kids1_in F n hF hro hn l Bv w0 v cs hv hsm (kids v) rfl J Jx W.heap.size hJ hY W (h0w.trans (hW.mono h0w.size)) (Row8.below hr hW) h0
mutual
/-- how many parts -/
def cnt : Vl → Nat
  | .mk kd _ _ _ _ _ its fls => 1 + (if kd = 5 then cntI its else if kd = 6 then cntF fls else 0)
def cntI : Vls → Nat
  | .nil => 0
  | .cons v r => cnt v + cntI r
def cntF : Fls → Nat
  | .nil => 0
  | .cons _ v r => cnt v + cntF r
end
mutual
/-- how deep, as the machine counts -/
def depW : Vl → Int
  | .mk kd _ _ _ _ _ its fls => if kd = 5 then wrap64 (1 + mxI its 0) else if kd = 6 then wrap64 (1 + mxF fls 0) else 0
def mxI : Vls → Int → Int
  | .nil, a => a
  | .cons v r, a => mxI r (max a (depW v))
def mxF : Fls → Int → Int
  | .nil, a => a
  | .cons _ v r, a => mxF r (max a (depW v))
end
theorem cntI_sum : ∀ l : Vls, cntI l = (l.list.map cnt).sum
  | .nil => by simp [cntI, Vls.list]
  | .cons v r => by rw [cntI, cntI_sum r]; simp [Vls.list]
theorem cntF_sum : ∀ l : Fls, cntF l = (l.list.map (fun q => cnt q.2)).sum
  | .nil => by simp [cntF, Fls.list]
  | .cons nm v r => by rw [cntF, cntF_sum r]; simp [Fls.list]
theorem mxI_fold : ∀ (l : Vls) (a : Int), mxI l a = (l.list.map depW).foldl max a
  | .nil, a => by simp [mxI, Vls.list]
  | .cons v r, a => by rw [mxI, mxI_fold r]; simp [Vls.list]
theorem mxF_fold : ∀ (l : Fls) (a : Int), mxF l a = (l.list.map (fun q => depW q.2)).foldl max a
  | .nil, a => by simp [mxF, Fls.list]
  | .cons nm v r, a => by rw [mxF, mxF_fold r]; simp [Fls.list]
theorem zip_map {α β : Type} (g : α → β) : ∀ (l : List α) (i : Nat), (l.zipIdx i).map (fun p => g p.1) = l.map g
  | [], i => rfl
  | a :: l, i => by simp only [List.zipIdx_cons, List.map_cons]; rw [zip_map g l (i + 1)]
theorem kids_map {β : Type} (g : Vl → β) (kd : Int) (b : Bool) (n : Int) (f : Nat) (tx ty : ByteArray) (its : Vls) (fls : Fls) :
    (kids (.mk kd b n f tx ty its fls)).map (fun p => g p.2) = if kd = 5 then its.list.map g else if kd = 6 then fls.list.map (fun q => g q.2) else [] := by
  by_cases h5 : kd = 5
  · subst h5
    rw [kids_list, if_pos rfl, List.map_map]
    exact zip_map g its.list 0
  · by_cases h6 : kd = 6
    · subst h6
      rw [kids_obj, if_neg h5, if_pos rfl, List.map_map]
      rfl
    · rw [kids_none h5 h6, if_neg h5, if_neg h6]
      rfl
theorem cnt_kids (v : Vl) : cnt v = 1 + ((kids v).map (fun p => cnt p.2)).sum := by
  obtain ⟨kd, b, n, f, tx, ty, its, fls⟩ := v
  rw [kids_map, cnt, cntI_sum, cntF_sum]
  split
  · rfl
  · split <;> rfl
theorem dep_kids (kd : Int) (b : Bool) (n : Int) (f : Nat) (tx ty : ByteArray) (its : Vls) (fls : Fls) (h : kd = 5 ∨ kd = 6) : depW (.mk kd b n f tx ty its fls) = wrap64 (1 + ((kids (.mk kd b n f tx ty its fls)).map (fun p => depW p.2)).foldl max 0) := by
  rw [kids_map, depW, mxI_fold, mxF_fold]
  rcases h with rfl | rfl <;> simp
theorem mem_kids {P : Vl → Prop} {kd : Int} {b : Bool} {n : Int} {f : Nat} {tx ty : ByteArray} {its : Vls} {fls : Fls} (hI : ∀ v ∈ its.list, P v) (hF : ∀ q ∈ fls.list, P q.2) : ∀ p ∈ kids (.mk kd b n f tx ty its fls), P p.2 := by
  intro p hp
  have : P p.2 ∨ False := by
    have hm := List.mem_map_of_mem (f := fun p : St × Vl => p.2) hp
    rw [kids_map (fun v => v)] at hm
    split at hm
    · exact .inl (hI _ (by simpa using hm))
    · split at hm
      · simp only [List.mem_map] at hm
        obtain ⟨q, hq, e⟩ := hm
        exact .inl (e ▸ hF q hq)
      · simp at hm
  exact this.elim id False.elim
def CountAt (v : Vl) : Prop := ∀ (cs : List Value) (w : World), VlC w v cs → Calls Try.prog 14 #[.agg cs.toArray] w fun e w' => e = .returned (.int .i64 (wrap64 (cnt v : Nat))) ∧ Below w.heap.size w w'
theorem wrap_add (x y : Int) : wrap64 (wrap64 x + wrap64 y) = wrap64 (x + y) := by unfold wrap64; omega
theorem keepsFrom_below {B : Nat} {W W' : World} (h : Below W.heap.size W W') : KeepsFrom B W W' := ⟨h.size, fun k o _ hk _ => (h.block k (Array.getElem?_eq_some_iff.1 hk).1).trans hk⟩
theorem range_own {β : Type} (B : Nat) (f : β → List Value) (hne : ∀ s, f s ≠ []) : Own (fun s W => W.rangeAt B 0 (f s)) := fun s X Y row hs hg hrow j u hu => cell_kept (hs j u hu) hg hrow
set_option maxRecDepth 100000 in
set_option maxHeartbeats 4000000 in
theorem count_step (v : Vl) (hsm : Small v) (ih : ∀ p ∈ kids v, CountAt p.2) : CountAt v := by
  intro cs w hv
  have hc0 := hv
  obtain ⟨kd, b, m, f, tx, ty, its, fls⟩ := v
  unfold VlC at hc0
  obtain ⟨ai, ni, ci, af, nf, cf, rfl, -⟩ := hc0
  have hck := hide (cnt_kids (.mk kd b m f tx ty its fls))
  have hsf := storeF
  refine (callsIn_wide (n := 8)).1 ?_
  refine callsIn_of_wp_marks Try.func14 rfl trivial ?_ rfl
  simp only [Try.ntmps14, List.size_toArray, List.length_cons, List.length_nil, Nat.reduceAdd, Nat.reduceSub, Array.replicate_succ, Array.replicate_zero, List.push_toArray, List.append_toArray, List.nil_append, List.cons_append]
  gi_wp2_with (refine ⟨trivial, ?_⟩; gi_at_call 31; refine (children_in Fence.wide _ trivial rfl _ _).mono ?_; rintro e w' ⟨rfl, rfl⟩)
  obtain ⟨W0, hW0⟩ : ∃ W0, W0 = ((w.alloc (.cells #[Value.int IntKind.i64 kd, Value.bool b, Value.int IntKind.i64 m, Value.float FloatKind.f64 f, Value.string tx, Value.string ty, Value.slice ai ni ci, Value.slice af nf cf] 27)).alloc (.cells #[.int .i64 1] 3)).alloc (.cells #[Value.int IntKind.i64 kd, Value.bool b, Value.int IntKind.i64 m, Value.float FloatKind.f64 f, Value.string tx, Value.string ty, Value.slice ai ni ci, Value.slice af nf cf] 27) := ⟨_, rfl⟩
  have hB0 : Below w.heap.size w W0 := by rw [hW0]; exact (((Below.refl _ _).alloc (Nat.le_refl _) _).alloc (by simp) _).alloc (by simp; omega) _
  have hsz : w.heap.size + 2 < W0.heap.size := by rw [hW0]; simp
  have bN : Boxed W0 (w.heap.size + 1) 3 (.int .i64 1) := by rw [hW0]; have := (Boxed.new (w.alloc (.cells #[Value.int IntKind.i64 kd, Value.bool b, Value.int IntKind.i64 m, Value.float FloatKind.f64 f, Value.string tx, Value.string ty, Value.slice ai ni ci, Value.slice af nf cf] 27)) 3 (.int .i64 1)).alloc (.cells #[Value.int IntKind.i64 kd, Value.bool b, Value.int IntKind.i64 m, Value.float FloatKind.f64 f, Value.string tx, Value.string ty, Value.slice ai ni ci, Value.slice af nf cf] 27); simpa using this
  have rV : W0.rangeAt (w.heap.size + 1 + 1) 0 [Value.int IntKind.i64 kd, Value.bool b, Value.int IntKind.i64 m, Value.float FloatKind.f64 f, Value.string tx, Value.string ty, Value.slice ai ni ci, Value.slice af nf cf] := fun j x hx => by rw [hW0, Nat.zero_add, World.cell?_alloc_at _ _ _ _ (by simp)]; simpa using hx
  rw [← hW0]
  clear hW0
  have hsf2 := hide hsf
  clear hsf
  refine wpIn_rangeFunc_ownH (α := Kid w (kids (.mk kd b m f tx ty its fls))) rfl (by omega) (gf := 56) (lb := #[.pointer (some ⟨w.heap.size + 1 + 1, 0, none⟩)]) rfl trivial (enters_of Try.func56 (by kernel_rfl) rfl)
    (kids_stops Fence.wide (8 - 1) trivial rfl (by omega) (w.heap.size + 1 + 1) w (.mk kd b m f tx ty its fls) _ hv hsm W0 hB0 (by omega) rV) belowK_t (belowK_b (by omega)) (Below.refl _ _) (fun _ => rfl)
    (fun pre W => Boxed W (w.heap.size + 1) 3 (.int .i64 (wrap64 ((1 + ((pre.map Kid.sv).map (fun p => cnt p.2)).sum : Nat) : Int))) ∧ Below w.heap.size w W)
    (fun _ _ _ => False)
    (OwnFrom.and (Own.from (boxed_own _ _ _) _) (ownFrom_below (Nat.le_refl _) (by omega)))
    (fun _ _ _ _ _ hs _ _ => hs)
    ⟨(show Boxed W0 (w.heap.size + 1) 3 (.int .i64 (wrap64 ((1 + 0 : Nat) : Int))) by rw [show wrap64 ((1 + 0 : Nat) : Int) = 1 by unfold wrap64; omega]; exact bN), hB0⟩
    (fun x a' W => ∃ Bx, w.heap.size + 1 < Bx ∧ Bx < W.heap.size ∧ W.rangeAt Bx 0 x.1.2.2 ∧ a' = { tmps := #[.agg #[Value.int IntKind.i64 kd, Value.bool b, Value.int IntKind.i64 m, Value.float FloatKind.f64 f, Value.string tx, Value.string ty, Value.slice ai ni ci, Value.slice af nf cf], .pointer (some ⟨w.heap.size, 0, none⟩), .int .i64 0, .pointer (some ⟨w.heap.size + 1, 0, none⟩), undef, .pointer (some ⟨Bx, 0, none⟩), .agg #[Value.int IntKind.i64 kd, Value.bool b, Value.int IntKind.i64 m, Value.float FloatKind.f64 f, Value.string tx, Value.string ty, Value.slice ai ni ci, Value.slice af nf cf], .func (.func 56) #[] #[.pointer (some ⟨w.heap.size + 1 + 1, 0, none⟩)], .agg #[.string x.1.1.nm, .int .i64 x.1.1.ix, .bool x.1.1.it], .agg x.1.2.2.toArray, undef, undef, undef, undef, undef], defers := [] })
    (fun x a' _ X Y row hs hg hr => by obtain ⟨Bx, h1, h2, h3, h4⟩ := hs; exact ⟨Bx, h1, Nat.lt_of_lt_of_le h2 hg.size, fun j u hu => cell_kept (h3 j u hu) hg (fun r e => (hr r e).2), h4⟩)
    ?assign ?body ?done ?stop
  case assign =>
    rintro l pre x W K ⟨bN1, hB1⟩ hK
    obtain ⟨⟨s, u, us⟩, hu, hm⟩ := x
    have hu' : VlC w u us := hu
    obtain ⟨ukd, ub, um, uf, utx, uty, uits, ufls⟩ := u
    unfold VlC at hu'
    obtain ⟨uai, uni, uci, uaf, unf, ucf, rfl, -⟩ := hu'
    unfold Kid.enc
    have hsf := unhide hsf2
    clear ih hck hv
    gi_wp2
    refine hK _ _ ((KeepsOthers.alloc _ _).from _) ((Below.refl _ W).alloc hB1.size _) ⟨bN1.alloc _, hB1.alloc hB1.size _⟩ ⟨W.heap.size, bN1.lt, by simp, fun j x hx => ?_, rfl⟩
    rw [Nat.zero_add, World.cell?_alloc_at _ _ _ _ rfl]
    simpa using hx
  case body =>
    rintro l pre x a' W hl ⟨r, hr⟩ ⟨bN1, hB1⟩ ⟨Bx, hBx, hBl, hrow, rfl⟩ hlt
    obtain ⟨⟨s, u, us⟩, hu, hm⟩ := x
    have IH := hide (ih (s, u) hm us W.drew (VlC.below hB1.drew _ _ hu))
    have hsum := hide (show (1 + (((pre ++ [⟨(s, u, us), hu, hm⟩] : List (Kid w (kids (.mk kd b m f tx ty its fls)))).map Kid.sv).map (fun p => cnt p.2)).sum : Nat) = (1 + ((pre.map Kid.sv).map (fun p => cnt p.2)).sum) + cnt u by rw [List.map_append, List.map_append, List.sum_append]; show 1 + (_ + (cnt u + 0)) = _; omega)
    have hu' : VlC w u us := hu
    obtain ⟨ukd, ub, um, uf, utx, uty, uits, ufls⟩ := u
    unfold VlC at hu'
    obtain ⟨uai, uni, uci, uaf, unf, ucf, rfl, -⟩ := hu'
    obtain ⟨z0, z1, z2, z3, z4, z5, z6, z7⟩ := Row8.eight hrow
    simp only [Nat.zero_add] at z1 z2 z3 z4 z5 z6 z7
    generalize (1 + ((pre.map Kid.sv).map (fun p => cnt p.2)).sum : Nat) = S at *
    have cN := bN1.cell
    have fN := bN1.frozen
    have hmx : Try.prog.follows .mixedOrders = true := by kernel_rfl
    have lN := bN1.lt
    clear hrow hck ih hv
    gi_wp2
    gi_region_with_o (refine ⟨trivial, ?_⟩; gi_at_call 14; refine (CallsIn.inRound l (callsIn_wide.2 (unhide IH))).mono ?_; rintro e w2 ⟨rfl, b2⟩; have c2 : w2.cell? ⟨w.heap.size + 1, 0, none⟩ = some (.int .i64 (wrap64 (S : Int))) := (b2.cell (p := ⟨w.heap.size + 1, 0, none⟩) lN).trans cN; have f2 : w2.frozen? ⟨w.heap.size + 1, 0, none⟩ = false := (b2.frozen (p := ⟨w.heap.size + 1, 0, none⟩) lN).trans fN)
    all_goals gi_wp2
    all_goals (try go_bits)
    all_goals
      have bW2 : Below W.heap.size W w2 := (Below.refl _ _).drew.trans b2
      have bx2 : Boxed w2 (w.heap.size + 1) 3 (.int .i64 (wrap64 (S : Int))) := (bW2.block _ lN).trans bN1
      refine ⟨(keepsFrom_below bW2).trans ((KeepsOthers.setCell _ _ _).from _), (bW2.mono hB1.size).setCell (p := ⟨w.heap.size + 1, 0, none⟩) (Nat.le_succ _) _, ?_, (hB1.trans (bW2.mono hB1.size)).setCell (p := ⟨w.heap.size + 1, 0, none⟩) (Nat.le_succ _) _⟩
      rw [unhide hsum, Int.natCast_add]
      simp only [wrap_add]
      exact bx2.set _
  case done =>
    rintro D xs W hD hxs ⟨bN1, hB1⟩ hK
    have cN := bN1.cell
    gi_wp2
    refine ⟨by simp, .inl ⟨_, _, rfl, run_takeDeferred hK, ?_⟩⟩
    refine ⟨_, results_tmp rfl _ _ _, ?_, hB1.trans (belowK_b (w := w) (Nat.le_refl _) W D _ _ (by have := hB0.size; omega) hK rfl rfl)⟩
    rw [unhide hck, ← hxs]
    rfl
  case stop =>
    rintro D c pre W _ _ h _
    exact h.elim
theorem count_ok : ∀ v : Vl, Small v → CountAt v := by
  refine Vl.all ?_
  intro kd b n f tx ty its fls hI hF hsm
  have hs := hsm
  unfold Small at hs
  obtain ⟨-, -, -, hsI, hsF⟩ := hs
  exact count_step _ hsm (mem_kids (fun v hv => hI v hv (hsI.all v hv)) (fun q hq => hF q hq (hsF.all q hq)))
end Go.Proofs.Ytiblkdedbimggaa.og
namespace Go.Proofs.Ytiblkdedbimggaa.og
open Go.ChangeShapes Go.WideShapes Go.ChangeAt Go.RowKit Go.Shelf
open vl hiding cB cFl cS cF cI cK cIt
open stp (c3 c3_lt c3_gt c3_eq cB cB_tri St)
attribute [local go_sem] Oper.semAt_some
set_option linter.unusedVariables false
set_option linter.unusedSimpArgs false
def DepthAt (v : Vl) : Prop := ∀ (cs : List Value) (w : World), VlC w v cs → Calls Try.prog 15 #[.agg cs.toArray] w fun e w' => e = .returned (.int .i64 (depW v)) ∧ Below w.heap.size w w'
set_option maxRecDepth 100000 in
set_option maxHeartbeats 4000000 in
theorem depth5 (b : Bool) (m : Int) (f : Nat) (tx ty : ByteArray) (its : Vls) (fls : Fls) (hsm : Small (.mk 5 b m f tx ty its fls)) (ih : ∀ p ∈ kids (.mk 5 b m f tx ty its fls), DepthAt p.2) : DepthAt (.mk 5 b m f tx ty its fls) := by
  intro cs w hv
  have hc0 := hv
  unfold VlC at hc0
  obtain ⟨ai, ni, ci, af, nf, cf, rfl, -⟩ := hc0
  have hck := hide (dep_kids 5 b m f tx ty its fls (by omega))
  have hsf := storeF
  refine (callsIn_wide (n := 8)).1 ?_
  refine callsIn_of_wp_marks Try.func15 rfl trivial ?_ rfl
  simp only [Try.ntmps15, List.size_toArray, List.length_cons, List.length_nil, Nat.reduceAdd, Nat.reduceSub, Array.replicate_succ, Array.replicate_zero, List.push_toArray, List.append_toArray, List.nil_append, List.cons_append]
  gi_wp2_with (refine ⟨trivial, ?_⟩; gi_at_call 31; refine (children_in Fence.wide _ trivial rfl _ _).mono ?_; rintro e w' ⟨rfl, rfl⟩)
  obtain ⟨W0, hW0⟩ : ∃ W0, W0 = ((w.alloc (.cells #[Value.int IntKind.i64 5, Value.bool b, Value.int IntKind.i64 m, Value.float FloatKind.f64 f, Value.string tx, Value.string ty, Value.slice ai ni ci, Value.slice af nf cf] 27)).alloc (.cells #[.int .i64 0] 3)).alloc (.cells #[Value.int IntKind.i64 5, Value.bool b, Value.int IntKind.i64 m, Value.float FloatKind.f64 f, Value.string tx, Value.string ty, Value.slice ai ni ci, Value.slice af nf cf] 27) := ⟨_, rfl⟩
  have hB0 : Below w.heap.size w W0 := by rw [hW0]; exact (((Below.refl _ _).alloc (Nat.le_refl _) _).alloc (by simp) _).alloc (by simp; omega) _
  have hsz : w.heap.size + 2 < W0.heap.size := by rw [hW0]; simp
  have bN : Boxed W0 (w.heap.size + 1) 3 (.int .i64 0) := by rw [hW0]; have := (Boxed.new (w.alloc (.cells #[Value.int IntKind.i64 5, Value.bool b, Value.int IntKind.i64 m, Value.float FloatKind.f64 f, Value.string tx, Value.string ty, Value.slice ai ni ci, Value.slice af nf cf] 27)) 3 (.int .i64 0)).alloc (.cells #[Value.int IntKind.i64 5, Value.bool b, Value.int IntKind.i64 m, Value.float FloatKind.f64 f, Value.string tx, Value.string ty, Value.slice ai ni ci, Value.slice af nf cf] 27); simpa using this
  have rV : W0.rangeAt (w.heap.size + 1 + 1) 0 [Value.int IntKind.i64 5, Value.bool b, Value.int IntKind.i64 m, Value.float FloatKind.f64 f, Value.string tx, Value.string ty, Value.slice ai ni ci, Value.slice af nf cf] := fun j x hx => by rw [hW0, Nat.zero_add, World.cell?_alloc_at _ _ _ _ (by simp)]; simpa using hx
  rw [← hW0]
  clear hW0
  have hsf2 := hide hsf
  clear hsf
  refine wpIn_rangeFunc_ownH (α := Kid w (kids (.mk 5 b m f tx ty its fls))) rfl (by omega) (gf := 56) (lb := #[.pointer (some ⟨w.heap.size + 1 + 1, 0, none⟩)]) rfl trivial (enters_of Try.func56 (by kernel_rfl) rfl)
    (kids_stops Fence.wide (8 - 1) trivial rfl (by omega) (w.heap.size + 1 + 1) w (.mk 5 b m f tx ty its fls) _ hv hsm W0 hB0 (by omega) rV) belowK_t (belowK_b (by omega)) (Below.refl _ _) (fun _ => rfl)
    (fun pre W => Boxed W (w.heap.size + 1) 3 (.int .i64 (((pre.map Kid.sv).map (fun p => depW p.2)).foldl max 0)) ∧ Below w.heap.size w W)
    (fun _ _ _ => False)
    (OwnFrom.and (Own.from (boxed_own _ _ _) _) (ownFrom_below (Nat.le_refl _) (by omega)))
    (fun _ _ _ _ _ hs _ _ => hs)
    ⟨bN, hB0⟩
    (fun x a' W => ∃ Bx, w.heap.size + 1 < Bx ∧ Bx < W.heap.size ∧ W.rangeAt Bx 0 x.1.2.2 ∧ a' = { tmps := #[.agg #[Value.int IntKind.i64 5, Value.bool b, Value.int IntKind.i64 m, Value.float FloatKind.f64 f, Value.string tx, Value.string ty, Value.slice ai ni ci, Value.slice af nf cf], .pointer (some ⟨w.heap.size, 0, none⟩), .int .i64 0, .pointer (some ⟨w.heap.size + 1, 0, none⟩), undef, .pointer (some ⟨Bx, 0, none⟩), .pointer (some ⟨w.heap.size, 0, none⟩), .int .i64 5, .bool false, .bool false, undef, undef, undef, .bool false, .agg #[Value.int IntKind.i64 5, Value.bool b, Value.int IntKind.i64 m, Value.float FloatKind.f64 f, Value.string tx, Value.string ty, Value.slice ai ni ci, Value.slice af nf cf], .func (.func 56) #[] #[.pointer (some ⟨w.heap.size + 1 + 1, 0, none⟩)], .agg #[.string x.1.1.nm, .int .i64 x.1.1.ix, .bool x.1.1.it], .agg x.1.2.2.toArray, undef, undef, undef, undef, undef, undef], defers := [] })
    (fun x a' _ X Y row hs hg hr => by obtain ⟨Bx, h1, h2, h3, h4⟩ := hs; exact ⟨Bx, h1, Nat.lt_of_lt_of_le h2 hg.size, fun j u hu => cell_kept (h3 j u hu) hg (fun r e => (hr r e).2), h4⟩)
    ?assign ?body ?done ?stop
  case assign =>
    rintro l pre x W K ⟨bN1, hB1⟩ hK
    obtain ⟨⟨s, u, us⟩, hu, hm⟩ := x
    have hu' : VlC w u us := hu
    obtain ⟨ukd, ub, um, uf, utx, uty, uits, ufls⟩ := u
    unfold VlC at hu'
    obtain ⟨uai, uni, uci, uaf, unf, ucf, rfl, -⟩ := hu'
    unfold Kid.enc
    have hsf := unhide hsf2
    clear ih hck hv
    gi_wp2
    refine hK _ _ ((KeepsOthers.alloc _ _).from _) ((Below.refl _ W).alloc hB1.size _) ⟨bN1.alloc _, hB1.alloc hB1.size _⟩ ⟨W.heap.size, bN1.lt, by simp, fun j x hx => ?_, rfl⟩
    rw [Nat.zero_add, World.cell?_alloc_at _ _ _ _ rfl]
    simpa using hx
  case body =>
    rintro l pre x a' W hl ⟨r, hr⟩ ⟨bN1, hB1⟩ ⟨Bx, hBx, hBl, hrow, rfl⟩ hlt
    obtain ⟨⟨s, u, us⟩, hu, hm⟩ := x
    have IH := hide (ih (s, u) hm us W.drew (VlC.below hB1.drew _ _ hu))
    have hsum := hide (show (((pre ++ [⟨(s, u, us), hu, hm⟩] : List (Kid w (kids (.mk 5 b m f tx ty its fls)))).map Kid.sv).map (fun p => depW p.2)).foldl max 0 = max (((pre.map Kid.sv).map (fun p => depW p.2)).foldl max 0) (depW u) by rw [List.map_append, List.map_append, List.foldl_append]; rfl)
    have hu' : VlC w u us := hu
    obtain ⟨ukd, ub, um, uf, utx, uty, uits, ufls⟩ := u
    unfold VlC at hu'
    obtain ⟨uai, uni, uci, uaf, unf, ucf, rfl, -⟩ := hu'
    obtain ⟨z0, z1, z2, z3, z4, z5, z6, z7⟩ := Row8.eight hrow
    simp only [Nat.zero_add] at z1 z2 z3 z4 z5 z6 z7
    generalize ((pre.map Kid.sv).map (fun p => depW p.2)).foldl max 0 = S at *
    have cN := bN1.cell
    have fN := bN1.frozen
    have hmx : Try.prog.follows .mixedOrders = true := by kernel_rfl
    have lN := bN1.lt
    clear hrow hck ih hv
    gi_wp2
    gi_region_with_o (refine ⟨trivial, ?_⟩; gi_at_call 15; refine (CallsIn.inRound l (callsIn_wide.2 (unhide IH))).mono ?_; rintro e w2 ⟨rfl, b2⟩; have c2 : w2.cell? ⟨w.heap.size + 1, 0, none⟩ = some (.int .i64 S) := (b2.cell (p := ⟨w.heap.size + 1, 0, none⟩) lN).trans cN; have f2 : w2.frozen? ⟨w.heap.size + 1, 0, none⟩ = false := (b2.frozen (p := ⟨w.heap.size + 1, 0, none⟩) lN).trans fN)
    all_goals gi_wp2
    all_goals (try go_bits)
    all_goals
      have bW2 : Below W.heap.size W w2 := (Below.refl _ _).drew.trans b2
      have bx2 : Boxed w2 (w.heap.size + 1) 3 (.int .i64 S) := (bW2.block _ lN).trans bN1
      refine ⟨(keepsFrom_below bW2).trans ((KeepsOthers.setCell _ _ _).from _), (bW2.mono hB1.size).setCell (p := ⟨w.heap.size + 1, 0, none⟩) (Nat.le_succ _) _, ?_, (hB1.trans (bW2.mono hB1.size)).setCell (p := ⟨w.heap.size + 1, 0, none⟩) (Nat.le_succ _) _⟩
      rw [unhide hsum]
      exact bx2.set _
  case done =>
    rintro D xs W hD hxs ⟨bN1, hB1⟩ hK
    have cN := bN1.cell
    gi_wp2
    refine ⟨by simp, .inl ⟨_, _, rfl, run_takeDeferred hK, ?_⟩⟩
    refine ⟨_, results_tmp rfl _ _ _, ?_, hB1.trans (belowK_b (w := w) (Nat.le_refl _) W D _ _ (by have := hB0.size; omega) hK rfl rfl)⟩
    rw [unhide hck, ← hxs]
    rfl
  case stop =>
    rintro D c pre W _ _ h _
    exact h.elim
set_option maxRecDepth 100000 in
set_option maxHeartbeats 4000000 in
theorem depth6 (b : Bool) (m : Int) (f : Nat) (tx ty : ByteArray) (its : Vls) (fls : Fls) (hsm : Small (.mk 6 b m f tx ty its fls)) (ih : ∀ p ∈ kids (.mk 6 b m f tx ty its fls), DepthAt p.2) : DepthAt (.mk 6 b m f tx ty its fls) := by
  intro cs w hv
  have hc0 := hv
  unfold VlC at hc0
  obtain ⟨ai, ni, ci, af, nf, cf, rfl, -⟩ := hc0
  have hck := hide (dep_kids 6 b m f tx ty its fls (by omega))
  have hsf := storeF
  refine (callsIn_wide (n := 8)).1 ?_
  refine callsIn_of_wp_marks Try.func15 rfl trivial ?_ rfl
  simp only [Try.ntmps15, List.size_toArray, List.length_cons, List.length_nil, Nat.reduceAdd, Nat.reduceSub, Array.replicate_succ, Array.replicate_zero, List.push_toArray, List.append_toArray, List.nil_append, List.cons_append]
  gi_wp2_with (refine ⟨trivial, ?_⟩; gi_at_call 31; refine (children_in Fence.wide _ trivial rfl _ _).mono ?_; rintro e w' ⟨rfl, rfl⟩)
  obtain ⟨W0, hW0⟩ : ∃ W0, W0 = ((w.alloc (.cells #[Value.int IntKind.i64 6, Value.bool b, Value.int IntKind.i64 m, Value.float FloatKind.f64 f, Value.string tx, Value.string ty, Value.slice ai ni ci, Value.slice af nf cf] 27)).alloc (.cells #[.int .i64 0] 3)).alloc (.cells #[Value.int IntKind.i64 6, Value.bool b, Value.int IntKind.i64 m, Value.float FloatKind.f64 f, Value.string tx, Value.string ty, Value.slice ai ni ci, Value.slice af nf cf] 27) := ⟨_, rfl⟩
  have hB0 : Below w.heap.size w W0 := by rw [hW0]; exact (((Below.refl _ _).alloc (Nat.le_refl _) _).alloc (by simp) _).alloc (by simp; omega) _
  have hsz : w.heap.size + 2 < W0.heap.size := by rw [hW0]; simp
  have bN : Boxed W0 (w.heap.size + 1) 3 (.int .i64 0) := by rw [hW0]; have := (Boxed.new (w.alloc (.cells #[Value.int IntKind.i64 6, Value.bool b, Value.int IntKind.i64 m, Value.float FloatKind.f64 f, Value.string tx, Value.string ty, Value.slice ai ni ci, Value.slice af nf cf] 27)) 3 (.int .i64 0)).alloc (.cells #[Value.int IntKind.i64 6, Value.bool b, Value.int IntKind.i64 m, Value.float FloatKind.f64 f, Value.string tx, Value.string ty, Value.slice ai ni ci, Value.slice af nf cf] 27); simpa using this
  have rV : W0.rangeAt (w.heap.size + 1 + 1) 0 [Value.int IntKind.i64 6, Value.bool b, Value.int IntKind.i64 m, Value.float FloatKind.f64 f, Value.string tx, Value.string ty, Value.slice ai ni ci, Value.slice af nf cf] := fun j x hx => by rw [hW0, Nat.zero_add, World.cell?_alloc_at _ _ _ _ (by simp)]; simpa using hx
  rw [← hW0]
  clear hW0
  have hsf2 := hide hsf
  clear hsf
  refine wpIn_rangeFunc_ownH (α := Kid w (kids (.mk 6 b m f tx ty its fls))) rfl (by omega) (gf := 56) (lb := #[.pointer (some ⟨w.heap.size + 1 + 1, 0, none⟩)]) rfl trivial (enters_of Try.func56 (by kernel_rfl) rfl)
    (kids_stops Fence.wide (8 - 1) trivial rfl (by omega) (w.heap.size + 1 + 1) w (.mk 6 b m f tx ty its fls) _ hv hsm W0 hB0 (by omega) rV) belowK_t (belowK_b (by omega)) (Below.refl _ _) (fun _ => rfl)
    (fun pre W => Boxed W (w.heap.size + 1) 3 (.int .i64 (((pre.map Kid.sv).map (fun p => depW p.2)).foldl max 0)) ∧ Below w.heap.size w W)
    (fun _ _ _ => False)
    (OwnFrom.and (Own.from (boxed_own _ _ _) _) (ownFrom_below (Nat.le_refl _) (by omega)))
    (fun _ _ _ _ _ hs _ _ => hs)
    ⟨bN, hB0⟩
    (fun x a' W => ∃ Bx, w.heap.size + 1 < Bx ∧ Bx < W.heap.size ∧ W.rangeAt Bx 0 x.1.2.2 ∧ a' = { tmps := #[.agg #[Value.int IntKind.i64 6, Value.bool b, Value.int IntKind.i64 m, Value.float FloatKind.f64 f, Value.string tx, Value.string ty, Value.slice ai ni ci, Value.slice af nf cf], .pointer (some ⟨w.heap.size, 0, none⟩), .int .i64 0, .pointer (some ⟨w.heap.size + 1, 0, none⟩), undef, .pointer (some ⟨Bx, 0, none⟩), .pointer (some ⟨w.heap.size, 0, none⟩), .int .i64 6, .bool true, .bool true, .pointer (some ⟨w.heap.size, 0, none⟩), .int .i64 6, .bool false, .bool false, .agg #[Value.int IntKind.i64 6, Value.bool b, Value.int IntKind.i64 m, Value.float FloatKind.f64 f, Value.string tx, Value.string ty, Value.slice ai ni ci, Value.slice af nf cf], .func (.func 56) #[] #[.pointer (some ⟨w.heap.size + 1 + 1, 0, none⟩)], .agg #[.string x.1.1.nm, .int .i64 x.1.1.ix, .bool x.1.1.it], .agg x.1.2.2.toArray, undef, undef, undef, undef, undef, undef], defers := [] })
    (fun x a' _ X Y row hs hg hr => by obtain ⟨Bx, h1, h2, h3, h4⟩ := hs; exact ⟨Bx, h1, Nat.lt_of_lt_of_le h2 hg.size, fun j u hu => cell_kept (h3 j u hu) hg (fun r e => (hr r e).2), h4⟩)
    ?assign ?body ?done ?stop
  case assign =>
    rintro l pre x W K ⟨bN1, hB1⟩ hK
    obtain ⟨⟨s, u, us⟩, hu, hm⟩ := x
    have hu' : VlC w u us := hu
    obtain ⟨ukd, ub, um, uf, utx, uty, uits, ufls⟩ := u
    unfold VlC at hu'
    obtain ⟨uai, uni, uci, uaf, unf, ucf, rfl, -⟩ := hu'
    unfold Kid.enc
    have hsf := unhide hsf2
    clear ih hck hv
    gi_wp2
    refine hK _ _ ((KeepsOthers.alloc _ _).from _) ((Below.refl _ W).alloc hB1.size _) ⟨bN1.alloc _, hB1.alloc hB1.size _⟩ ⟨W.heap.size, bN1.lt, by simp, fun j x hx => ?_, rfl⟩
    rw [Nat.zero_add, World.cell?_alloc_at _ _ _ _ rfl]
    simpa using hx
  case body =>
    rintro l pre x a' W hl ⟨r, hr⟩ ⟨bN1, hB1⟩ ⟨Bx, hBx, hBl, hrow, rfl⟩ hlt
    obtain ⟨⟨s, u, us⟩, hu, hm⟩ := x
    have IH := hide (ih (s, u) hm us W.drew (VlC.below hB1.drew _ _ hu))
    have hsum := hide (show (((pre ++ [⟨(s, u, us), hu, hm⟩] : List (Kid w (kids (.mk 6 b m f tx ty its fls)))).map Kid.sv).map (fun p => depW p.2)).foldl max 0 = max (((pre.map Kid.sv).map (fun p => depW p.2)).foldl max 0) (depW u) by rw [List.map_append, List.map_append, List.foldl_append]; rfl)
    have hu' : VlC w u us := hu
    obtain ⟨ukd, ub, um, uf, utx, uty, uits, ufls⟩ := u
    unfold VlC at hu'
    obtain ⟨uai, uni, uci, uaf, unf, ucf, rfl, -⟩ := hu'
    obtain ⟨z0, z1, z2, z3, z4, z5, z6, z7⟩ := Row8.eight hrow
    simp only [Nat.zero_add] at z1 z2 z3 z4 z5 z6 z7
    generalize ((pre.map Kid.sv).map (fun p => depW p.2)).foldl max 0 = S at *
    have cN := bN1.cell
    have fN := bN1.frozen
    have hmx : Try.prog.follows .mixedOrders = true := by kernel_rfl
    have lN := bN1.lt
    clear hrow hck ih hv
    gi_wp2
    gi_region_with_o (refine ⟨trivial, ?_⟩; gi_at_call 15; refine (CallsIn.inRound l (callsIn_wide.2 (unhide IH))).mono ?_; rintro e w2 ⟨rfl, b2⟩; have c2 : w2.cell? ⟨w.heap.size + 1, 0, none⟩ = some (.int .i64 S) := (b2.cell (p := ⟨w.heap.size + 1, 0, none⟩) lN).trans cN; have f2 : w2.frozen? ⟨w.heap.size + 1, 0, none⟩ = false := (b2.frozen (p := ⟨w.heap.size + 1, 0, none⟩) lN).trans fN)
    all_goals gi_wp2
    all_goals (try go_bits)
    all_goals
      have bW2 : Below W.heap.size W w2 := (Below.refl _ _).drew.trans b2
      have bx2 : Boxed w2 (w.heap.size + 1) 3 (.int .i64 S) := (bW2.block _ lN).trans bN1
      refine ⟨(keepsFrom_below bW2).trans ((KeepsOthers.setCell _ _ _).from _), (bW2.mono hB1.size).setCell (p := ⟨w.heap.size + 1, 0, none⟩) (Nat.le_succ _) _, ?_, (hB1.trans (bW2.mono hB1.size)).setCell (p := ⟨w.heap.size + 1, 0, none⟩) (Nat.le_succ _) _⟩
      rw [unhide hsum]
      exact bx2.set _
  case done =>
    rintro D xs W hD hxs ⟨bN1, hB1⟩ hK
    have cN := bN1.cell
    gi_wp2
    refine ⟨by simp, .inl ⟨_, _, rfl, run_takeDeferred hK, ?_⟩⟩
    refine ⟨_, results_tmp rfl _ _ _, ?_, hB1.trans (belowK_b (w := w) (Nat.le_refl _) W D _ _ (by have := hB0.size; omega) hK rfl rfl)⟩
    rw [unhide hck, ← hxs]
    rfl
  case stop =>
    rintro D c pre W _ _ h _
    exact h.elim
theorem depth0 (kd : Int) (b : Bool) (m : Int) (f : Nat) (tx ty : ByteArray) (its : Vls) (fls : Fls) (h5 : kd ≠ 5) (h6 : kd ≠ 6) : DepthAt (.mk kd b m f tx ty its fls) := by
  intro cs w hv
  unfold VlC at hv
  obtain ⟨ai, ni, ci, af, nf, cf, rfl, -⟩ := hv
  have hd := hide (show depW (.mk kd b m f tx ty its fls) = 0 by rw [depW, if_neg h5, if_neg h6])
  have q5 : (kd != 5) = true := by simpa using h5
  have q6 : (kd != 6) = true := by simpa using h6
  go_enter Try.func15, Try.ntmps15
  go_wp2
  go_ret
  exact ⟨by rw [unhide hd]; rfl, (Below.refl _ _).alloc (Nat.le_refl _) _⟩
theorem depth_ok : ∀ v : Vl, Small v → DepthAt v := by
  refine Vl.all ?_
  intro kd b n f tx ty its fls hI hF hsm
  have hs := hsm
  unfold Small at hs
  obtain ⟨-, -, -, hsI, hsF⟩ := hs
  have ih : ∀ p ∈ kids (.mk kd b n f tx ty its fls), DepthAt p.2 := mem_kids (fun v hv => hI v hv (hsI.all v hv)) (fun q hq => hF q hq (hsF.all q hq))
  by_cases h5 : kd = 5
  · subst h5; exact depth5 _ _ _ _ _ _ _ hsm ih
  · by_cases h6 : kd = 6
    · subst h6; exact depth6 _ _ _ _ _ _ _ hsm ih
    · exact depth0 _ _ _ _ _ _ _ _ h5 h6
end Go.Proofs.Ytiblkdedbimggaa.og
namespace Go.Proofs.Ytiblkdedbimggaa.og
open Go.ChangeShapes Go.WideShapes Go.ChangeAt Go.RowKit
open vl hiding cB cFl cS cF cI cK cIt
set_option linter.unusedVariables false
set_option linter.unusedSimpArgs false
theorem two_eq : (ordV twoV twoV == 0) = true := by rw [ordV_self]; rfl
theorem two_ne : (ordV twoV (turnV twoV) == 0) = false := by kernel_rfl
theorem two_cnt : wrap64 (cnt twoV : Nat) = 6 := by
  have : cnt twoV = 6 := by kernel_rfl
  rw [this]
  unfold wrap64
  omega
theorem two_dep : depW twoV = 3 := by kernel_rfl
set_option maxHeartbeats 4000000 in
set_option maxRecDepth 6000 in
theorem known_ok (w : World) : Calls Try.prog 8 #[] w fun e w' => e = .returned (.bool true) ∧ Below w.heap.size w w' := by
  go_enter Try.func8, Try.ntmps8
  go_wp2_with fail
  refine (two_ok _).mono ?_
  rintro e w1 ⟨b1, t1, rfl, v1⟩
  generalize twoC t1 = c1 at *
  go_wp2_with fail
  refine (two_ok _).mono ?_
  rintro e w2 ⟨b2, t2, rfl, v2⟩
  generalize twoC t2 = c2 at *
  go_wp2_with fail
  refine (equal_ok twoV twoV Small.twoV Small.twoV _ _ _ (VlC.below b2 _ _ v1) v2).mono ?_
  rintro e w3 ⟨rfl, b3⟩
  rw [two_eq]
  have B3 : Below w.heap.size w w3 := (b1.trans (b2.mono b1.size)).trans (b3.mono (Nat.le_trans b1.size b2.size))
  clear b1 b2 b3 v1 v2
  go_wp2_with fail
  refine (two_ok _).mono ?_
  rintro e w4 ⟨b4, t3, rfl, v3⟩
  generalize twoC t3 = c3 at *
  go_wp2_with fail
  refine (two_ok _).mono ?_
  rintro e w5 ⟨b5, t4, rfl, v4⟩
  generalize twoC t4 = c4 at *
  go_wp2_with fail
  refine (turned_ok twoV Small.twoV (fun _ => False) c4 _ (fun b hb => hb.elim) (AvC.of _ _ v4)).mono ?_
  rintro e w6 ⟨u, d4, rfl, rfl, a4, b6⟩
  go_wp2_with fail
  refine (equal_ok twoV (turnV twoV) Small.twoV (Small.turn _ Small.twoV) _ _ _ (VlC.below b6 _ _ (VlC.below b5 _ _ v3)) (AvC.read _ _ a4)).mono ?_
  rintro e w7 ⟨rfl, b7⟩
  rw [two_ne]
  have B7 : Below w.heap.size w w7 := by
    have s4 := b4.size; have s5 := b5.size; have s6 := b6.size; have s3 := B3.size
    exact (((B3.trans (b4.mono s3)).trans (b5.mono (by omega))).trans (b6.mono (by omega))).trans (b7.mono (by omega))
  clear b4 b5 b6 b7 v3 v4 a4 B3
  go_wp2_with fail
  refine (two_ok _).mono ?_
  rintro e w8 ⟨b8, t5, rfl, v5⟩
  generalize twoC t5 = c5 at *
  go_wp2_with fail
  refine (two_ok _).mono ?_
  rintro e w9 ⟨b9, t6, rfl, v6⟩
  generalize twoC t6 = c6 at *
  go_wp2_with fail
  refine (turned_ok twoV Small.twoV (fun _ => False) c6 _ (fun b hb => hb.elim) (AvC.of _ _ v6)).mono ?_
  rintro e wa ⟨u, d6, rfl, rfl, a6, ba⟩
  go_wp2_with fail
  refine (same_ok twoV (turnV twoV) Small.twoV (Small.turn _ Small.twoV) _ _ _ (VlC.below ba _ _ (VlC.below b9 _ _ v5)) (AvC.read _ _ a6)).mono ?_
  rintro e wb ⟨v', u', h1, h2, rfl, bb⟩
  rw [show (ordV v' u' == 0) = true by rw [pm_srt twoV Small.twoV _ (Small.turn _ Small.twoV) (Pm.turn twoV) v' u' h1 h2]; rfl]
  have Bb : Below w.heap.size w wb := by
    have s4 := b8.size; have s5 := b9.size; have s6 := ba.size; have s3 := B7.size
    exact (((B7.trans (b8.mono s3)).trans (b9.mono (by omega))).trans (ba.mono (by omega))).trans (bb.mono (by omega))
  clear b8 b9 ba bb v5 v6 a6 B7 h1 h2
  go_wp2_with fail
  refine (two_ok _).mono ?_
  rintro e wc ⟨bc, t7, rfl, v7⟩
  generalize twoC t7 = c7 at *
  go_wp2_with fail
  refine (count_ok twoV Small.twoV _ _ v7).mono ?_
  rintro e wd ⟨rfl, bd⟩
  rw [two_cnt]
  have Bd : Below w.heap.size w wd := (Bb.trans (bc.mono Bb.size)).trans (bd.mono (Nat.le_trans Bb.size bc.size))
  clear bc bd Bb v7
  go_wp2_with fail
  refine (two_ok _).mono ?_
  rintro e we ⟨be, t8, rfl, v8⟩
  generalize twoC t8 = c8 at *
  go_wp2_with fail
  refine (depth_ok twoV Small.twoV _ _ v8).mono ?_
  rintro e wf ⟨rfl, bf⟩
  rw [two_dep]
  have Bf : Below w.heap.size w wf := (Bd.trans (be.mono Bd.size)).trans (bf.mono (Nat.le_trans Bd.size be.size))
  clear be bf Bd v8
  go_wp2
  go_ret
  exact ⟨rfl, Bf⟩
end Go.Proofs.Ytiblkdedbimggaa.og
namespace Go.Proofs.Ytiblkdedbimggaa.og
open Go.ChangeShapes Go.WideShapes Go.ChangeAt Go.RowKit
open vl hiding cB cFl cS cF cI cK cIt
set_option linter.unusedVariables false
set_option linter.unusedSimpArgs false
/-- what was there is there -/
def Gb (a w : World) : Prop := Below a.heap.size a w
theorem Gb.refl (a : World) : Gb a a := Below.refl _ _
theorem Gb.drew {a w : World} (h : Gb a w) : Gb a { w with drawn := w.drawn + 1 } := Below.drew h
theorem Gb.size {a w : World} (h : Gb a w) : a.heap.size ≤ w.heap.size := Below.size h
theorem Gb.trans {a w x : World} (h : Gb a w) (k : Below a.heap.size w x) : Gb a x := Below.trans h k
theorem sum_perm {l m : List Nat} (h : l.Perm m) : l.sum = m.sum := by
  induction h with
  | nil => rfl
  | cons x _ ih => simp [ih]
  | swap x y l => simp; omega
  | trans _ _ h1 h2 => exact h1.trans h2
theorem fmax_perm {l m : List Int} (h : l.Perm m) : ∀ a : Int, l.foldl max a = m.foldl max a := by
  induction h with
  | nil => intro a; rfl
  | cons x _ ih => intro a; exact ih _
  | swap x y l => intro a; simp only [List.foldl_cons]; rw [show max (max a y) x = max (max a x) y by omega]
  | trans _ _ h1 h2 => intro a; exact (h1 a).trans (h2 a)
theorem cnt_turn : ∀ v : Vl, cnt (turnV v) = cnt v := by
  refine Vl.all ?_
  intro kd b n f tx ty its fls hI hF
  rw [turnV, cnt, cnt, cntI_sum, cntI_sum, cntF_sum, cntF_sum, turnI_list, turnF_list]
  have e1 : ((its.list.map turnV).map cnt) = its.list.map cnt := by
    rw [List.map_map]; exact List.map_congr_left (fun v hv => hI v hv)
  have e2 : ((fls.list.reverse.map (fun q => (q.1, turnV q.2)) ++ (Fls.nil).list).map (fun q => cnt q.2)).sum = (fls.list.map (fun q => cnt q.2)).sum := by
    simp only [Fls.list, List.append_nil, List.map_map]
    rw [show fls.list.reverse.map ((fun q : ByteArray × Vl => cnt q.2) ∘ fun q => (q.1, turnV q.2)) = fls.list.reverse.map (fun q => cnt q.2) from List.map_congr_left (fun q hq => hF q (List.mem_reverse.1 hq))]
    exact sum_perm ((List.reverse_perm _).map _)
  rw [e1, e2]
theorem dep_turn : ∀ v : Vl, depW (turnV v) = depW v := by
  refine Vl.all ?_
  intro kd b n f tx ty its fls hI hF
  rw [turnV, depW, depW, mxI_fold, mxI_fold, mxF_fold, mxF_fold, turnI_list, turnF_list]
  have e1 : ((its.list.map turnV).map depW) = its.list.map depW := by
    rw [List.map_map]; exact List.map_congr_left (fun v hv => hI v hv)
  have e2 : ((fls.list.reverse.map (fun q => (q.1, turnV q.2)) ++ (Fls.nil).list).map (fun q => depW q.2)).foldl max 0 = (fls.list.map (fun q => depW q.2)).foldl max 0 := by
    simp only [Fls.list, List.append_nil, List.map_map]
    rw [show fls.list.reverse.map ((fun q : ByteArray × Vl => depW q.2) ∘ fun q => (q.1, turnV q.2)) = fls.list.reverse.map (fun q => depW q.2) from List.map_congr_left (fun q hq => hF q (List.mem_reverse.1 hq))]
    exact fmax_perm ((List.reverse_perm _).map _) 0
  rw [e1, e2]
open Classical in
/-- what tree.Same answers -/
noncomputable def smB (v u : Vl) : Bool := decide (∃ v' u', Srt v v' ∧ Srt u u' ∧ ordV v' u' = 0)
theorem srt_lvl {v v1 v2 : Vl} (hv : Small v) (h1 : Srt v v1) (h2 : Srt v v2) : ordV v1 v2 = 0 := pm_srt v hv v hv (Pm.refl v) v1 v2 h1 h2
theorem ordV_zero_trans {a b c : Vl} (ha : Small a) (hb : Small b) (hc : Small c) (h : ordV a b = 0) (k : ordV b c = 0) : ordV a c = 0 := ((Tr.ordV a ha b hb c hc).1 h).trans k
theorem ordV_zero_symm {a b : Vl} (ha : Small a) (hb : Small b) (h : ordV a b = 0) : ordV b a = 0 := by rw [ordV_anti a b ha hb, h]; rfl
theorem smB_of {v u v' u' : Vl} (hv : Small v) (hu : Small u) (h1 : Srt v v') (h2 : Srt u u') : smB v u = (ordV v' u' == 0) := by
  unfold smB
  by_cases h : ordV v' u' = 0
  · rw [h]
    exact @decide_eq_true _ (_) ⟨v', u', h1, h2, h⟩
  · rw [show (ordV v' u' == 0) = false by simpa using h]
    refine @decide_eq_false _ (_) ?_
    rintro ⟨a, b, ka, kb, k⟩
    have sa := Srt.small _ _ hv ka
    have sb := Srt.small _ _ hu kb
    have s1 := Srt.small _ _ hv h1
    have s2 := Srt.small _ _ hu h2
    exact h (ordV_zero_trans s1 sa s2 (srt_lvl hv h1 ka) (ordV_zero_trans sa sb s2 k (srt_lvl hu kb h2)))
theorem same_okB (v u : Vl) (hv : Small v) (hu : Small u) (cs ds : List Value) (w : World) (h1 : VlC w v cs) (h2 : VlC w u ds) : Calls Try.prog 12 #[.agg cs.toArray, .agg ds.toArray] w fun e w' => e = .returned (.bool (smB v u)) ∧ Below w.heap.size w w' ∧ (∃ v', Srt v v') ∧ ∃ u', Srt u u' :=
  (same_ok v u hv hu cs ds w h1 h2).mono fun e w' ⟨v', u', k1, k2, k3, k4⟩ => ⟨by rw [smB_of hv hu k1 k2]; exact k3, k4, ⟨v', k1⟩, ⟨u', k2⟩⟩
theorem smB_pm {v u : Vl} (hv : Small v) (hu : Small u) (hp : Pm v u) (h1 : ∃ v', Srt v v') (h2 : ∃ u', Srt u u') : smB v u = true := by
  obtain ⟨v', h1⟩ := h1
  obtain ⟨u', h2⟩ := h2
  rw [smB_of hv hu h1 h2, pm_srt v hv u hu hp v' u' h1 h2]
  rfl
theorem smB_symm {v u : Vl} (hv : Small v) (hu : Small u) : smB u v = smB v u := by
  unfold smB
  refine (@decide_eq_decide _ _ (_) (_)).2 ⟨?_, ?_⟩
  · rintro ⟨a, b, ka, kb, k⟩
    exact ⟨b, a, kb, ka, ordV_zero_symm (Srt.small _ _ hu ka) (Srt.small _ _ hv kb) k⟩
  · rintro ⟨a, b, ka, kb, k⟩
    exact ⟨b, a, kb, ka, ordV_zero_symm (Srt.small _ _ hv ka) (Srt.small _ _ hu kb) k⟩
theorem smB_left {v t u : Vl} (hv : Small v) (ht : Small t) (hu : Small u) (hp : Pm v t) (h1 : ∃ v', Srt v v') (h2 : ∃ u', Srt t u') : smB t u = smB v u := by
  unfold smB
  obtain ⟨x, h1⟩ := h1
  obtain ⟨y, h2⟩ := h2
  have sx := Srt.small _ _ hv h1
  have sy := Srt.small _ _ ht h2
  refine (@decide_eq_decide _ _ (_) (_)).2 ⟨?_, ?_⟩
  · rintro ⟨a, b, ka, kb, k⟩
    exact ⟨x, b, h1, kb, ordV_zero_trans sx (Srt.small _ _ ht ka) (Srt.small _ _ hu kb) (pm_srt v hv t ht hp x a h1 ka) k⟩
  · rintro ⟨a, b, ka, kb, k⟩
    exact ⟨y, b, h2, kb, ordV_zero_trans sy (Srt.small _ _ hv ka) (Srt.small _ _ hu kb) (ordV_zero_symm (Srt.small _ _ hv ka) sy (pm_srt v hv t ht hp a y ka h2)) k⟩
end Go.Proofs.Ytiblkdedbimggaa.og
namespace Go.Proofs.Ytiblkdedbimggaa.og
open Go.ChangeShapes Go.WideShapes Go.ChangeAt Go.RowKit
open vl hiding cB cFl cS cF cI cK cIt
open stp (c3 c3_lt c3_gt c3_eq cB cB_tri)
open mem (dec_fin dec_inf dec_nan word_of order_fin sv)
set_option linter.unusedVariables false
set_option linter.unusedSimpArgs false
set_option maxHeartbeats 4000000 in
theorem rkind_ok (v : Vl) (cs : List Value) (w w0 : World) (hv : VlC w0 v cs) : Calls Try.prog 28 #[.agg cs.toArray] w fun e w' => e = .returned (.int .i64 (kdV v)) ∧ Below w.heap.size w w' := by
  obtain ⟨kd, b, n, f, tx, ty, its, fls⟩ := v
  unfold VlC at hv
  obtain ⟨ai, ni, ci, af, nf, cf, rfl, -⟩ := hv
  unfold kdV
  have hB : Below w.heap.size w (w.alloc (.cells #[.int .i64 kd, .bool b, .int .i64 n, .float .f64 f, .string tx, .string ty, .slice ai ni ci, .slice af nf cf] 27)) := (Below.refl _ _).alloc (Nat.le_refl _) _
  by_cases h1 : kd < 0
  · have hr := hide (show kdOf kd = 0 by unfold kdOf; rw [if_pos (.inl h1)])
    go_enter Try.func28, Try.ntmps28
    go_wp2
    go_ret
    exact ⟨by rw [unhide hr]; rfl, hB⟩
  · by_cases h2 : 7 < kd
    · have hr := hide (show kdOf kd = 0 by unfold kdOf; rw [if_pos (.inr h2)])
      go_enter Try.func28, Try.ntmps28
      go_wp2
      go_ret
      exact ⟨by rw [unhide hr]; rfl, hB⟩
    · have hr := hide (show kdOf kd = kd by unfold kdOf; rw [if_neg (by omega)])
      go_enter Try.func28, Try.ntmps28
      go_wp2
      go_ret
      exact ⟨by rw [unhide hr]; rfl, hB⟩
theorem keyF_inj (a b : Nat) (ha : a < 18446744073709551616) (hb : b < 18446744073709551616) (na : nanF a = false) (nb : nanF b = false) (h : keyF a = keyF b) : a = b := by
  unfold keyF at h
  rw [na, nb] at h
  simp only [Bool.false_eq_true, if_false] at h
  by_cases h1 : 9223372036854775808 ≤ a <;> by_cases h2 : 9223372036854775808 ≤ b <;> simp only [h1, h2, if_true, if_false] at h <;> omega
theorem cFl_num (a b : Nat) (ha : a < 18446744073709551616) (hb : b < 18446744073709551616) (na : nanF a = false) (nb : nanF b = false) : (cFl a b == 0) = (a == b) := by
  by_cases h : a = b
  · subst h
    simp [cFl, sameF]
  · rw [show (a == b) = false by simpa using h, cFl_key a b ha hb]
    have : c3 (keyF a) (keyF b) ≠ 0 := fun e => h (keyF_inj a b ha hb na nb (c3_zero e))
    simpa using this
theorem cFl_one (a b : Nat) (ha : a < 18446744073709551616) (hb : b < 18446744073709551616) (h : nanF a ≠ nanF b) : (cFl a b == 0) = false := by
  have : c3 (keyF a) (keyF b) ≠ 0 := fun e => by
    have e := c3_zero e
    unfold keyF at e
    cases ha' : nanF a <;> cases hb' : nanF b <;> simp only [ha', hb', Bool.false_eq_true, if_false, if_true] at e h
    · exact h rfl
    · split at e <;> omega
    · split at e <;> omega
    · exact h rfl
  rw [cFl_key a b ha hb]
  simpa using this
theorem cFl_two (a b : Nat) (na : nanF a = true) (nb : nanF b = true) : (cFl a b == 0) = true := by
  simp [cFl, sameF, na, nb]
theorem ord_eq (a b : Nat) (ha : a < 18446744073709551616) (hb : b < 18446744073709551616) (na : nanF a = false) (nb : nanF b = false) (hz : ¬ (a % 9223372036854775808 = 0 ∧ b % 9223372036854775808 = 0)) : (FloatKind.f64.format.order a b == some Ordering.eq) = (a == b) := by
  by_cases h : a = b
  · subst h
    rw [(ordSelf a ha).2, na]
    simp
  · rw [show (a == b) = false by simpa using h]
    have nA : a % 9223372036854775808 ≤ 9218868437227405312 := by unfold nanF at na; simpa using na
    have nB : b % 9223372036854775808 ≤ 9218868437227405312 := by unfold nanF at nb; simpa using nb
    have ho := ord_num (sgn a) (sgn b) _ _ nA nB
    unfold sgn at ho
    rw [word_of a ha, word_of b hb] at ho
    rw [ho]
    have vm : ∀ x y : Nat, x < y → mem.vR x < mem.vR y := fun x y h => mem.vR_mono h
    have z0 : mem.vR 0 = 0 := by simp [mem.vR, mem.mantR, mem.b52]
    have hzz : ∀ x : Nat, mem.vR x = 0 → x = 0 := fun x hx => by
      rcases Nat.eq_zero_or_pos x with h | h
      · exact h
      · have := vm 0 x h; omega
    have inj : ∀ x y : Nat, mem.vR x = mem.vR y → x = y := fun x y hx => by
      rcases Nat.lt_trichotomy x y with h | h | h
      · have := vm _ _ h; omega
      · exact h
      · have := vm _ _ h; omega
    have hne : sv (decide (9223372036854775808 ≤ a)) (mem.vR (a % 9223372036854775808)) ≠ sv (decide (9223372036854775808 ≤ b)) (mem.vR (b % 9223372036854775808)) := by
      intro e
      by_cases sa : 9223372036854775808 ≤ a <;> by_cases sb : 9223372036854775808 ≤ b <;> simp only [sa, sb, decide_true, decide_false, sv, if_true, if_false, Bool.false_eq_true] at e
      · have := inj _ _ (show mem.vR (a % 9223372036854775808) = mem.vR (b % 9223372036854775808) by omega); omega
      · have h1 := hzz _ (show mem.vR (a % 9223372036854775808) = 0 by omega)
        have h2 := hzz _ (show mem.vR (b % 9223372036854775808) = 0 by omega)
        exact hz ⟨h1, h2⟩
      · have h1 := hzz _ (show mem.vR (a % 9223372036854775808) = 0 by omega)
        have h2 := hzz _ (show mem.vR (b % 9223372036854775808) = 0 by omega)
        exact hz ⟨h1, h2⟩
      · have := inj _ _ (show mem.vR (a % 9223372036854775808) = mem.vR (b % 9223372036854775808) by omega); omega
    have : compare (sv (decide (9223372036854775808 ≤ a)) (mem.vR (a % 9223372036854775808))) (sv (decide (9223372036854775808 ≤ b)) (mem.vR (b % 9223372036854775808))) ≠ Ordering.eq := fun e => hne (Int.compare_eq_eq.1 e)
    generalize compare (sv (decide (9223372036854775808 ≤ a)) (mem.vR (a % 9223372036854775808))) (sv (decide (9223372036854775808 ≤ b)) (mem.vR (b % 9223372036854775808))) = o at *
    cases o <;> first | rfl | exact absurd rfl this
set_option maxHeartbeats 4000000 in
/-- ref03.SameFloat -/
theorem sfl_ok (a b : Nat) (ha : a < 18446744073709551616) (hb : b < 18446744073709551616) (w : World) : Calls Try.prog 29 #[.float .f64 a, .float .f64 b] w fun e w' => e = .returned (.bool (cFl a b == 0)) ∧ w = w' := by
  obtain ⟨sa, -⟩ := ordSelf a ha
  obtain ⟨sb, -⟩ := ordSelf b hb
  cases na : nanF a with
  | true =>
    rw [na] at sa
    cases nb : nanF b with
    | true =>
      rw [nb] at sb
      rw [cFl_two a b na nb]
      clear ha hb na nb
      go_enter Try.func29, Try.ntmps29
      go_wp2
      go_ret
      exact ⟨rfl, rfl⟩
    | false =>
      rw [nb] at sb
      rw [cFl_one a b ha hb (by rw [na, nb]; decide)]
      clear ha hb na nb
      go_enter Try.func29, Try.ntmps29
      go_wp2
      go_ret
      exact ⟨rfl, rfl⟩
  | false =>
    rw [na] at sa
    cases nb : nanF b with
    | true =>
      rw [nb] at sb
      rw [cFl_one a b ha hb (by rw [na, nb]; decide)]
      clear ha hb na nb
      go_enter Try.func29, Try.ntmps29
      go_wp2
      go_ret
      exact ⟨rfl, rfl⟩
    | false =>
      rw [nb] at sb
      rw [cFl_num a b ha hb na nb]
      by_cases hz : a % 9223372036854775808 = 0 ∧ b % 9223372036854775808 = 0
      · have q0 : ∀ w, (binOp .quo 23 (.float .f64 4607182418800017408) (.float .f64 0)).run Try.prog w = .ok (.float .f64 9218868437227405312) w := fun w => run_float_arith w _ _ _ _ _ _ (by decide)
        have q1 : ∀ w, (binOp .quo 23 (.float .f64 4607182418800017408) (.float .f64 9223372036854775808)).run Try.prog w = .ok (.float .f64 18442240474082181120) w := fun w => run_float_arith w _ _ _ _ _ _ (by decide)
        have z0 : (FloatKind.f64.format.order 0 0 == some Ordering.eq) = true := by decide
        have z1 : (FloatKind.f64.format.order 9223372036854775808 0 == some Ordering.eq) = true := by decide
        have i0 : (FloatKind.f64.format.order 9218868437227405312 9218868437227405312 == some Ordering.eq) = true := by decide
        have i1 : (FloatKind.f64.format.order 18442240474082181120 18442240474082181120 == some Ordering.eq) = true := by decide
        have i2 : (FloatKind.f64.format.order 18442240474082181120 9218868437227405312 == some Ordering.eq) = false := by decide
        have i3 : (FloatKind.f64.format.order 9218868437227405312 18442240474082181120 == some Ordering.eq) = false := by decide
        have y0 : (FloatKind.f64.format.order 0 0 != some Ordering.eq) = false := by decide
        have y1 : (FloatKind.f64.format.order 9223372036854775808 9223372036854775808 != some Ordering.eq) = false := by decide
        rcases (show a = 0 ∨ a = 9223372036854775808 by omega) with rfl | rfl <;> rcases (show b = 0 ∨ b = 9223372036854775808 by omega) with rfl | rfl
        all_goals
          clear ha hb na nb hz sa sb
          go_enter Try.func29, Try.ntmps29
          go_wp2
          go_ret
          exact ⟨rfl, rfl⟩
      · have he := ord_eq a b ha hb na nb hz
        by_cases za : a % 9223372036854775808 = 0
        · have zb : b % 9223372036854775808 ≠ 0 := fun h => hz ⟨za, h⟩
          have oz := ordZero b hb zb
          have oa : (FloatKind.f64.format.order a 0 == some Ordering.eq) = true := by
            rcases (show a = 0 ∨ a = 9223372036854775808 by omega) with rfl | rfl <;> decide
          clear ha hb na nb hz za zb
          go_enter Try.func29, Try.ntmps29
          go_wp2
          go_ret
          exact ⟨by simp [he], rfl⟩
        · have oz := ordZero a ha za
          clear ha hb na nb hz za
          go_enter Try.func29, Try.ntmps29
          go_wp2
          go_ret
          exact ⟨by simp [he], rfl⟩
end Go.Proofs.Ytiblkdedbimggaa.og
namespace Go.Proofs.Ytiblkdedbimggaa.og
open Go.ChangeShapes Go.WideShapes Go.ChangeAt Go.RowKit
open vl hiding cB cFl cS cF cI cK cIt
open stp (c3 c3_lt c3_gt c3_eq cB cB_tri)
set_option linter.unusedVariables false
set_option linter.unusedSimpArgs false
theorem cB_zero {a b : ByteArray} (h : cB a b = 0) : a = b := by
  rcases cB_tri a b with ⟨k, -, -⟩ | ⟨-, -, k⟩ | ⟨k, -, -⟩
  · rw [k] at h; cases h
  · exact k
  · rw [k] at h; cases h
theorem ordM_zero {p q : ByteArray × Vl} (h : ordM p q = 0) : p.1 = q.1 ∧ ordV p.2 q.2 = 0 := by
  unfold ordM at h
  by_cases hb : cB p.1 q.1 = 0
  · rw [if_pos hb] at h; exact ⟨cB_zero hb, h⟩
  · rw [if_neg hb] at h; exact absurd h hb
theorem P2.trans {α β γ : Type} {R : α → β → Prop} {S : β → γ → Prop} {T : α → γ → Prop} : ∀ {l : List α} {m : List β} {r : List γ}, P2 R l m → P2 S m r → (∀ a ∈ l, ∀ b ∈ m, ∀ c ∈ r, R a b → S b c → T a c) → P2 T l r
  | [], [], [], _, _, _ => trivial
  | a :: l, b :: m, c :: r, h, k, hi => ⟨hi a (List.mem_cons_self ..) b (List.mem_cons_self ..) c (List.mem_cons_self ..) h.1 k.1, P2.trans h.2 k.2 (fun x hx y hy z hz => hi x (List.mem_cons_of_mem _ hx) y (List.mem_cons_of_mem _ hy) z (List.mem_cons_of_mem _ hz))⟩
  | [], _ :: _, _, h, _, _ => h.elim
  | _ :: _, [], _, h, _, _ => h.elim
  | [], [], _ :: _, _, k, _ => k.elim
  | _ :: _, _ :: _, [], _, k, _ => k.elim
/-- what is level when it is sorted is the same but for the members' order -/
theorem srt_pm : ∀ v : Vl, Small v → ∀ u : Vl, Small u → ∀ v' u' : Vl, Srt v v' → Srt u u' → ordV v' u' = 0 → Pm v u := by
  refine Vl.all ?_
  intro kd b n f tx ty its fls hI hF hv u hu v' u' h1 h2 h
  obtain ⟨kd', b', n', f', tx', ty', its', fls'⟩ := u
  unfold Srt at h1 h2
  obtain ⟨jts, gls, rfl, k1⟩ := h1
  obtain ⟨jts', gls', rfl, k2⟩ := h2
  unfold Small at hv hu
  obtain ⟨-, -, -, sI, sF⟩ := hv
  obtain ⟨-, -, -, sI', sF'⟩ := hu
  rw [ordV_thn] at h
  have hk : kdOf kd = kdOf kd' := by
    apply Classical.byContradiction
    intro hne
    have : c3 (kdOf kd) (kdOf kd') ≠ 0 := fun e => hne (c3_zero e)
    unfold thn at h
    rw [if_neg (show ¬ c3 (kdW (Vl.mk kd b n f tx ty jts gls)) (kdW (Vl.mk kd' b' n' f' tx' ty' jts' gls')) = 0 from this)] at h
    exact this h
  rw [show c3 (kdW (Vl.mk kd b n f tx ty jts gls)) (kdW (Vl.mk kd' b' n' f' tx' ty' jts' gls')) = 0 from c3_eq hk, thn_zero, show kdW (Vl.mk kd b n f tx ty jts gls) = kdOf kd from rfl] at h
  unfold Pm
  refine ⟨hk, ?_⟩
  by_cases h5 : kdOf kd = 5
  · rw [if_pos h5]
    rw [if_pos (kdOf_five h5)] at k1
    rw [if_pos (kdOf_five (hk.symm.trans h5))] at k2
    rw [h5, leaf_five] at h
    refine PmI.of (P2.trans (P2.trans k1.1.p2 (p2_lexG h) (fun a ha c hc d hd x y => And.intro x y |> fun z => (⟨c, z.1, z.2⟩ : ∃ c, Srt a c ∧ ordV c d = 0))) k2.1.p2.symm (fun a ha d hd e he ⟨c, x, y⟩ z => hI a ha (sI.all _ ha) e (sI'.all _ he) c d x z y))
  · rw [if_neg h5]
    by_cases h6 : kdOf kd = 6
    · rw [if_pos h6]
      rw [if_neg (kdOf_n5 h5), if_pos (kdOf_six h6)] at k1
      rw [if_neg (kdOf_n5 (fun e => h5 (hk.trans e))), if_pos (kdOf_six (hk.symm.trans h6))] at k2
      obtain ⟨-, m1, s1, pm1, -⟩ := k1
      obtain ⟨-, m2, s2, pm2, -⟩ := k2
      rw [h6, leaf_six] at h
      -- its members, in the order of the second's sorted ones
      obtain ⟨m3, e3, t3⟩ := P2.perm pm2 (P2.symm (p2_lexG h))
      -- t3 : P2 (level) m2 m3, gls.list ~ m3, so m1 ~ m3
      obtain ⟨m4, e4, t4⟩ := P2.perm (pm1.symm.trans e3) (P2.symm s1.p2)
      -- m4 ~ fls.list, P2 (srt) m3 m4
      have t5 := P2.trans (P2.trans t4.symm t3.symm (T := fun p r => ∃ q, (q.1 = p.1 ∧ Srt p.2 q.2) ∧ ordM q r = 0) (fun a ha c hc d hd x y => ⟨c, x, y⟩)) (P2.symm s2.p2) (T := fun p e => e.1 = p.1 ∧ Pm p.2 e.2) (fun a ha d hd e he ⟨c, x, y⟩ z => by
        obtain ⟨y1, y2⟩ := ordM_zero y
        have ha' : a ∈ fls.list := e4.mem_iff.2 ha
        exact ⟨by rw [← z.1, ← y1, x.1], hF a ha' (sF.all _ ha') e.2 (sF'.all _ he) c.2 d.2 x.2 z.2 y2⟩)
      -- P2 M m4 fls'.list with fls.list ~ m4
      obtain ⟨m5, e5, t6⟩ := P2.perm e4.symm t5
      exact ⟨m5, e5, PmF.of t6⟩
    · rw [if_neg h6]
      rw [if_neg (kdOf_n5 h5), if_neg (kdOf_n6 h6)] at k1
      rw [if_neg (kdOf_n5 (fun e => h5 (hk.trans e))), if_neg (kdOf_n6 (fun e => h6 (hk.trans e)))] at k2
      obtain ⟨rfl, rfl⟩ := k1
      obtain ⟨rfl, rfl⟩ := k2
      exact h
/-- the first that stands so to p is taken out -/
def rmF {α : Type} (M : α → α → Bool) (p : α) : List α → Option (List α)
  | [] => none
  | a :: l => if M p a = true then some l else (rmF M p l).map (a :: ·)
/-- each in turn finds one that is left -/
def grd {α : Type} (M : α → α → Bool) : List α → List α → Bool
  | [], _ => true
  | p :: l, r => match rmF M p r with
    | none => false
    | some r' => grd M l r'
/-- those that are not taken -/
def rem {α : Type} : List α → List Bool → List α
  | a :: l, t :: ts => if t = true then rem l ts else a :: rem l ts
  | _, _ => []
theorem rem_hit {α : Type} (M : α → α → Bool) (p : α) : ∀ (l : List α) (ts : List Bool) (j : Nat) (a : α), l[j]? = some a → ts[j]? = some false → M p a = true → (∀ k, k < j → ∀ b, l[k]? = some b → ts[k]? = some true ∨ M p b = false) → rmF M p (rem l ts) = some (rem l (ts.set j true))
  | [], ts, j, a, h, _, _, _ => by simp at h
  | x :: l, [], j, a, _, h, _, _ => by simp at h
  | x :: l, t :: ts, 0, a, h, h2, h3, _ => by
    obtain rfl : x = a := by simpa using h
    obtain rfl : t = false := by simpa using h2
    simp [rem, rmF, h3]
  | x :: l, t :: ts, j + 1, a, h, h2, h3, h4 => by
    have ih := rem_hit M p l ts j a (by simpa using h) (by simpa using h2) h3 (fun k hk b hb => by simpa using h4 (k + 1) (by omega) b (by simpa using hb))
    rcases h4 0 (by omega) x rfl with e | e
    · obtain rfl : t = true := by simpa using e
      simpa [rem] using ih
    · cases t
      · simp [rem, rmF, e, ih]
      · simpa [rem] using ih
theorem rem_miss {α : Type} (M : α → α → Bool) (p : α) : ∀ (l : List α) (ts : List Bool), l.length = ts.length → (∀ (k : Nat) (b : α), l[k]? = some b → ts[k]? = some true ∨ M p b = false) → rmF M p (rem l ts) = none
  | [], ts, _, _ => by cases ts <;> simp [rem, rmF]
  | x :: l, [], h, _ => by simp at h
  | x :: l, t :: ts, h, h4 => by
    have ih := rem_miss M p l ts (by simpa using h) (fun k b hb => by simpa using h4 (k + 1) b (by simpa using hb))
    rcases h4 0 x rfl with e | e
    · obtain rfl : t = true := by simpa using e
      simpa [rem] using ih
    · cases t
      · simp [rem, rmF, e, ih]
      · simpa [rem] using ih
theorem rem_all {α : Type} : ∀ l : List α, rem l (List.replicate l.length false) = l
  | [] => rfl
  | a :: l => by simp [rem, List.replicate_succ, rem_all l]
theorem rmF_some {α : Type} (M : α → α → Bool) (p : α) : ∀ {r r' : List α}, rmF M p r = some r' → ∃ a, M p a = true ∧ r.Perm (a :: r')
  | [], r', h => by simp [rmF] at h
  | a :: l, r', h => by
    unfold rmF at h
    by_cases hm : M p a = true
    · rw [if_pos hm] at h
      obtain rfl : l = r' := by simpa using h
      exact ⟨a, hm, List.Perm.refl _⟩
    · rw [if_neg hm] at h
      cases hq : rmF M p l with
      | none => rw [hq] at h; simp at h
      | some q =>
        rw [hq] at h
        obtain rfl : a :: q = r' := by simpa using h
        obtain ⟨x, hx, hp⟩ := rmF_some M p hq
        exact ⟨x, hx, (hp.cons a).trans (List.Perm.swap x a q)⟩
theorem rmF_none {α : Type} (M : α → α → Bool) (p : α) : ∀ {r : List α}, rmF M p r = none → ∀ a ∈ r, M p a = false
  | [], _, a, ha => by simp at ha
  | x :: l, h, a, ha => by
    unfold rmF at h
    by_cases hm : M p x = true
    · rw [if_pos hm] at h; simp at h
    · rw [if_neg hm] at h
      rcases List.mem_cons.1 ha with rfl | ha
      · simpa using hm
      · cases hq : rmF M p l with
        | none => exact rmF_none M p hq a ha
        | some q => rw [hq] at h; simp at h
theorem grd_of {α : Type} (M : α → α → Bool) : ∀ (l r : List α), l.length = r.length → grd M l r = true → ∃ m, r.Perm m ∧ P2 (fun p q => M p q = true) l m
  | [], r, hl, _ => ⟨[], by cases r; exact List.Perm.refl _; simp at hl, trivial⟩
  | p :: l, r, hl, h => by
    unfold grd at h
    cases hq : rmF M p r with
    | none => rw [hq] at h; simp at h
    | some r' =>
      rw [hq] at h
      obtain ⟨a, ha, hp⟩ := rmF_some M p hq
      obtain ⟨m, hm, k⟩ := grd_of M l r' (by have := hp.length_eq; simp at this hl; omega) h
      exact ⟨a :: m, hp.trans (hm.cons a), ha, k⟩
/-- where those that stand so to one stand so to all that it stands to, the first is as good as any -/
theorem grd_to {α : Type} (M : α → α → Bool) (A B : α → Prop) (hM : ∀ p p' q q', A p → A p' → B q → B q' → M p q = true → M p q' = true → M p' q = true → M p' q' = true) :
    ∀ (l r m : List α), (∀ x ∈ l, A x) → (∀ x ∈ r, B x) → r.Perm m → P2 (fun p q => M p q = true) l m → grd M l r = true
  | [], r, m, _, _, _, _ => rfl
  | p :: l, r, [], _, _, _, h => h.elim
  | p :: l, r, b :: m, hA, hB, hp, h => by
    unfold grd
    cases hq : rmF M p r with
    | none =>
      have := rmF_none M p hq b (hp.mem_iff.2 (List.mem_cons_self ..))
      rw [show M p b = true from h.1] at this
      cases this
    | some r' =>
      obtain ⟨a, ha, hp'⟩ := rmF_some M p hq
      have hpa : (a :: r').Perm (b :: m) := hp'.symm.trans hp
      have hBr : ∀ x ∈ r', B x := fun x hx => hB x (hp'.mem_iff.2 (List.mem_cons_of_mem _ hx))
      have hBa : B a := hB a (hp'.mem_iff.2 (List.mem_cons_self ..))
      have hBb : B b := hB b (hp.mem_iff.2 (List.mem_cons_self ..))
      have hAl : ∀ x ∈ l, A x := fun x hx => hA x (List.mem_cons_of_mem _ hx)
      show grd M l r' = true
      rcases List.mem_cons.1 (hpa.mem_iff.1 (List.mem_cons_self ..)) with rfl | ham
      · exact grd_to M A B hM l r' m hAl hBr (List.Perm.cons_inv hpa) h.2
      · -- a lies in m: put b in its place
        obtain ⟨s, t, rfl⟩ := List.append_of_mem ham
        obtain ⟨s', x, t', rfl, k1, k2, k3⟩ := P2.split h.2
        have hx : A x := hAl x (by simp)
        have hpm : r'.Perm (s ++ b :: t) := by
          have h1 : (a :: r').Perm (a :: (s ++ b :: t)) := hpa.trans (((List.perm_middle (a := a) (l₁ := s) (l₂ := t)).cons b).trans ((List.Perm.swap a b (s ++ t)).trans ((List.perm_middle (a := b) (l₁ := s) (l₂ := t)).symm.cons a)))
          exact List.Perm.cons_inv h1
        exact grd_to M A B hM _ r' _ hAl hBr hpm (P2.glue (R := fun p q => M p q = true) (hM p x a b (hA p (List.mem_cons_self ..)) hx hBa hBb ha h.1 k2) k3 k1)
end Go.Proofs.Ytiblkdedbimggaa.og
namespace Go.Proofs.Ytiblkdedbimggaa.og
open Go.ChangeShapes Go.WideShapes Go.ChangeAt Go.RowKit
open vl hiding cB cFl cS cF cI cK cIt
open stp (c3 c3_lt c3_gt c3_eq cB cB_tri)
set_option linter.unusedVariables false
set_option linter.unusedSimpArgs false
def REq (v u : Vl) : Prop := ∀ (cs ds : List Value) (w : World), VlC w v cs → VlC w u ds → Calls Try.prog 11 #[.agg cs.toArray, .agg ds.toArray] w fun e w' => e = .returned (.bool (ordV v u == 0)) ∧ Below w.heap.size w w'
theorem ordV_kd {v u : Vl} (h : kdW v = kdW u) : ordV v u = leafV (kdW v) v u := by rw [ordV_thn, c3_eq h, thn_zero]
theorem ordV_kn {v u : Vl} (h : kdW v ≠ kdW u) : (ordV v u == 0) = false := by
  have : c3 (kdW v) (kdW u) ≠ 0 := fun e => h (c3_zero e)
  rw [ordV_thn]
  unfold thn
  rw [if_neg this]
  simpa using this
theorem cBo_eq (a b : Bool) : (cBo a b == 0) = (a == b) := by cases a <;> cases b <;> rfl
theorem c3_eqb (a b : Int) : (c3 a b == 0) = (a == b) := by
  by_cases h : a = b
  · subst h; simp [c3_eq]
  · rw [show (a == b) = false by simpa using h]
    have : c3 a b ≠ 0 := fun e => h (c3_zero e)
    simpa using this
theorem cB_eqb (a b : ByteArray) : (cB a b == 0) = decide (a = b) := by
  rcases cB_tri a b with ⟨h, -, k⟩ | ⟨h, -, k⟩ | ⟨h, -, k⟩
  · rw [h]; simp [k]
  · rw [h]; simp [k]
  · rw [h]; simp [k]
theorem str_beq (a b : ByteArray) : (a.toList == b.toList) = decide (a = b) := by
  rw [ByteArray.toList_eq, ByteArray.toList_eq]
  by_cases h : a = b
  · subst h; simp
  · rw [decide_eq_false h, beq_eq_false_iff_ne]
    intro e
    apply h
    have : a.data = b.data := Array.toList_inj.1 e
    cases a; cases b; simp at this; simp [this]
theorem str_bne {a b : ByteArray} (h : ¬ a = b) : (a.toList != b.toList) = true := by
  unfold bne
  rw [str_beq, decide_eq_false h]
  rfl
theorem P2.length {α β : Type} {R : α → β → Prop} : ∀ {l : List α} {r : List β}, P2 R l r → l.length = r.length
  | [], [], _ => rfl
  | _ :: _, _ :: _, h => by simp [P2.length h.2]
  | [], _ :: _, h => h.elim
  | _ :: _, [], h => h.elim
theorem thn_eqb (x y : Int) : (thn x y == 0) = ((x == 0) && (y == 0)) := by
  unfold thn
  by_cases h : x = 0 <;> simp [h]
set_option maxHeartbeats 8000000 in
set_option maxRecDepth 6000 in
theorem req_ne (kd : Int) (b : Bool) (n : Int) (f : Nat) (tx ty : ByteArray) (its : Vls) (fls : Fls) (kd' : Int) (b' : Bool) (n' : Int) (f' : Nat) (tx' ty' : ByteArray) (its' : Vls) (fls' : Fls) (K K' : Int) (hk : kdOf kd = K) (hk' : kdOf kd' = K') (hne : K ≠ K') : REq (.mk kd b n f tx ty its fls) (.mk kd' b' n' f' tx' ty' its' fls') := by
  intro cs ds w h1 h2
  have hv := h1
  have hu := h2
  unfold VlC at hv hu
  obtain ⟨ai, ni, ci, af, nf, cf, rfl, vI, vF, q1, q2, q3, q4, q5, q6, q7, q8, q9, q10⟩ := hv
  obtain ⟨ai', ni', ci', af', nf', cf', rfl, uI, uF, p1, p2, p3, p4, p5, p6, p7, p8, p9, p10⟩ := hu
  obtain ⟨W, eW⟩ : ∃ W, W = ((w.alloc (.cells #[.int .i64 kd, .bool b, .int .i64 n, .float .f64 f, .string tx, .string ty, .slice ai ni ci, .slice af nf cf] 27)).alloc (.cells #[.int .i64 kd', .bool b', .int .i64 n', .float .f64 f', .string tx', .string ty', .slice ai' ni' ci', .slice af' nf' cf'] 27)) := ⟨_, rfl⟩
  have BW : Below w.heap.size w W := by rw [eW]; exact ((Below.refl _ _).alloc (Nat.le_refl _) _).alloc (by simp) _
  have R_a := hide (show Row8 W w.heap.size 0 [.int .i64 kd, .bool b, .int .i64 n, .float .f64 f, .string tx, .string ty, .slice ai ni ci, .slice af nf cf] from fun j x hx => by
    rw [eW, Nat.zero_add, World.cell?_alloc_past _ _ _ (by simp), World.cell?_alloc_at _ _ _ _ rfl]; simpa using hx)
  have R_b := hide (show Row8 W (w.heap.size + 1) 0 [.int .i64 kd', .bool b', .int .i64 n', .float .f64 f', .string tx', .string ty', .slice ai' ni' ci', .slice af' nf' cf'] from fun j x hx => by
    rw [eW, Nat.zero_add, World.cell?_alloc_at _ _ _ _ (by simp)]; simpa using hx)
  have V_a := hide (VlC.below BW _ _ h1)
  have V_b := hide (VlC.below BW _ _ h2)
  have EW := hide eW
  have HI := hide (And.intro vI uI)
  have HF := hide (And.intro vF uF)
  clear eW h1 h2 vI vF uI uF q5 q6 q7 q8 p5 p6 p7 p8
  go_enter Try.func11, Try.ntmps11
  go_wp2_with (rw [← unhide EW]; refine wpList_load_mid (by rfl) 27 _ (by rfl) w.heap.size 0 (by rfl) [.int .i64 kd, .bool b, .int .i64 n, .float .f64 f, .string tx, .string ty, .slice ai ni ci, .slice af nf cf] _ (unhide R_a) Try.underlying27 (by rfl) infoV ?_)
  clear EW
  refine (rkind_ok (.mk kd b n f tx ty its fls) _ _ _ (unhide V_a)).mono ?_
  rintro e w1 ⟨rfl, g⟩
  rw [show kdV (Vl.mk kd b n f tx ty its fls) = K from hk]
  have R_a := hide (Row8.below (unhide R_a) g)
  have R_b := hide (Row8.below (unhide R_b) g)
  have V_a := hide (VlC.below g _ _ (unhide V_a))
  have V_b := hide (VlC.below g _ _ (unhide V_b))
  have BW : Below w.heap.size w w1 := BW.trans (g.mono BW.size)
  clear g
  go_wp2_with (refine wpList_load_mid (by rfl) 27 _ (by rfl) (w.heap.size + 1) 0 (by rfl) [.int .i64 kd', .bool b', .int .i64 n', .float .f64 f', .string tx', .string ty', .slice ai' ni' ci', .slice af' nf' cf'] _ (unhide R_b) Try.underlying27 (by rfl) infoV ?_)
  refine (rkind_ok (.mk kd' b' n' f' tx' ty' its' fls') _ _ _ (unhide V_b)).mono ?_
  rintro e w2 ⟨rfl, g⟩
  rw [show kdV (Vl.mk kd' b' n' f' tx' ty' its' fls') = K' from hk']
  have R_a := hide (Row8.below (unhide R_a) g)
  have R_b := hide (Row8.below (unhide R_b) g)
  have V_a := hide (VlC.below g _ _ (unhide V_a))
  have V_b := hide (VlC.below g _ _ (unhide V_b))
  have BW : Below w.heap.size w w2 := BW.trans (g.mono BW.size)
  clear g
  go_wp2
  go_ret
  exact ⟨by rw [ordV_kn (by show kdOf kd ≠ kdOf kd'; rw [hk, hk']; exact hne)]; rfl, BW⟩
set_option maxHeartbeats 8000000 in
set_option maxRecDepth 6000 in
theorem req_0 (kd : Int) (b : Bool) (n : Int) (f : Nat) (tx ty : ByteArray) (its : Vls) (fls : Fls) (kd' : Int) (b' : Bool) (n' : Int) (f' : Nat) (tx' ty' : ByteArray) (its' : Vls) (fls' : Fls) (hk : kdOf kd = 0) (hk' : kdOf kd' = 0)  : REq (.mk kd b n f tx ty its fls) (.mk kd' b' n' f' tx' ty' its' fls') := by
  intro cs ds w h1 h2
  have hv := h1
  have hu := h2
  unfold VlC at hv hu
  obtain ⟨ai, ni, ci, af, nf, cf, rfl, vI, vF, q1, q2, q3, q4, q5, q6, q7, q8, q9, q10⟩ := hv
  obtain ⟨ai', ni', ci', af', nf', cf', rfl, uI, uF, p1, p2, p3, p4, p5, p6, p7, p8, p9, p10⟩ := hu
  obtain ⟨W, eW⟩ : ∃ W, W = ((w.alloc (.cells #[.int .i64 kd, .bool b, .int .i64 n, .float .f64 f, .string tx, .string ty, .slice ai ni ci, .slice af nf cf] 27)).alloc (.cells #[.int .i64 kd', .bool b', .int .i64 n', .float .f64 f', .string tx', .string ty', .slice ai' ni' ci', .slice af' nf' cf'] 27)) := ⟨_, rfl⟩
  have BW : Below w.heap.size w W := by rw [eW]; exact ((Below.refl _ _).alloc (Nat.le_refl _) _).alloc (by simp) _
  have R_a := hide (show Row8 W w.heap.size 0 [.int .i64 kd, .bool b, .int .i64 n, .float .f64 f, .string tx, .string ty, .slice ai ni ci, .slice af nf cf] from fun j x hx => by
    rw [eW, Nat.zero_add, World.cell?_alloc_past _ _ _ (by simp), World.cell?_alloc_at _ _ _ _ rfl]; simpa using hx)
  have R_b := hide (show Row8 W (w.heap.size + 1) 0 [.int .i64 kd', .bool b', .int .i64 n', .float .f64 f', .string tx', .string ty', .slice ai' ni' ci', .slice af' nf' cf'] from fun j x hx => by
    rw [eW, Nat.zero_add, World.cell?_alloc_at _ _ _ _ (by simp)]; simpa using hx)
  have V_a := hide (VlC.below BW _ _ h1)
  have V_b := hide (VlC.below BW _ _ h2)
  have EW := hide eW
  have HI := hide (And.intro vI uI)
  have HF := hide (And.intro vF uF)
  clear eW h1 h2 vI vF uI uF q5 q6 q7 q8 p5 p6 p7 p8
  go_enter Try.func11, Try.ntmps11
  go_wp2_with (rw [← unhide EW]; refine wpList_load_mid (by rfl) 27 _ (by rfl) w.heap.size 0 (by rfl) [.int .i64 kd, .bool b, .int .i64 n, .float .f64 f, .string tx, .string ty, .slice ai ni ci, .slice af nf cf] _ (unhide R_a) Try.underlying27 (by rfl) infoV ?_)
  clear EW
  refine (rkind_ok (.mk kd b n f tx ty its fls) _ _ _ (unhide V_a)).mono ?_
  rintro e w1 ⟨rfl, g⟩
  rw [show kdV (Vl.mk kd b n f tx ty its fls) = 0 from hk]
  have R_a := hide (Row8.below (unhide R_a) g)
  have R_b := hide (Row8.below (unhide R_b) g)
  have V_a := hide (VlC.below g _ _ (unhide V_a))
  have V_b := hide (VlC.below g _ _ (unhide V_b))
  have BW : Below w.heap.size w w1 := BW.trans (g.mono BW.size)
  clear g
  go_wp2_with (refine wpList_load_mid (by rfl) 27 _ (by rfl) (w.heap.size + 1) 0 (by rfl) [.int .i64 kd', .bool b', .int .i64 n', .float .f64 f', .string tx', .string ty', .slice ai' ni' ci', .slice af' nf' cf'] _ (unhide R_b) Try.underlying27 (by rfl) infoV ?_)
  refine (rkind_ok (.mk kd' b' n' f' tx' ty' its' fls') _ _ _ (unhide V_b)).mono ?_
  rintro e w2 ⟨rfl, g⟩
  rw [show kdV (Vl.mk kd' b' n' f' tx' ty' its' fls') = 0 from hk']
  have R_a := hide (Row8.below (unhide R_a) g)
  have R_b := hide (Row8.below (unhide R_b) g)
  have V_a := hide (VlC.below g _ _ (unhide V_a))
  have V_b := hide (VlC.below g _ _ (unhide V_b))
  have BW : Below w.heap.size w w2 := BW.trans (g.mono BW.size)
  clear g
  have HG := hide (show ordV (.mk kd b n f tx ty its fls) (.mk kd' b' n' f' tx' ty' its' fls') = leafV 0 (.mk kd b n f tx ty its fls) (.mk kd' b' n' f' tx' ty' its' fls') by rw [ordV_kd (show kdW (Vl.mk kd b n f tx ty its fls) = kdW (Vl.mk kd' b' n' f' tx' ty' its' fls') from hk.trans hk'.symm), show kdW (Vl.mk kd b n f tx ty its fls) = 0 from hk])
  simp only [leafV, Int.reduceEq, if_true, if_false] at HG
  go_wp2
  go_ret
  exact ⟨by rw [unhide HG]; rfl, BW⟩
set_option maxHeartbeats 8000000 in
set_option maxRecDepth 6000 in
theorem req_1 (kd : Int) (b : Bool) (n : Int) (f : Nat) (tx ty : ByteArray) (its : Vls) (fls : Fls) (kd' : Int) (b' : Bool) (n' : Int) (f' : Nat) (tx' ty' : ByteArray) (its' : Vls) (fls' : Fls) (hk : kdOf kd = 1) (hk' : kdOf kd' = 1)  : REq (.mk kd b n f tx ty its fls) (.mk kd' b' n' f' tx' ty' its' fls') := by
  intro cs ds w h1 h2
  have hv := h1
  have hu := h2
  unfold VlC at hv hu
  obtain ⟨ai, ni, ci, af, nf, cf, rfl, vI, vF, q1, q2, q3, q4, q5, q6, q7, q8, q9, q10⟩ := hv
  obtain ⟨ai', ni', ci', af', nf', cf', rfl, uI, uF, p1, p2, p3, p4, p5, p6, p7, p8, p9, p10⟩ := hu
  obtain ⟨W, eW⟩ : ∃ W, W = ((w.alloc (.cells #[.int .i64 kd, .bool b, .int .i64 n, .float .f64 f, .string tx, .string ty, .slice ai ni ci, .slice af nf cf] 27)).alloc (.cells #[.int .i64 kd', .bool b', .int .i64 n', .float .f64 f', .string tx', .string ty', .slice ai' ni' ci', .slice af' nf' cf'] 27)) := ⟨_, rfl⟩
  have BW : Below w.heap.size w W := by rw [eW]; exact ((Below.refl _ _).alloc (Nat.le_refl _) _).alloc (by simp) _
  have R_a := hide (show Row8 W w.heap.size 0 [.int .i64 kd, .bool b, .int .i64 n, .float .f64 f, .string tx, .string ty, .slice ai ni ci, .slice af nf cf] from fun j x hx => by
    rw [eW, Nat.zero_add, World.cell?_alloc_past _ _ _ (by simp), World.cell?_alloc_at _ _ _ _ rfl]; simpa using hx)
  have R_b := hide (show Row8 W (w.heap.size + 1) 0 [.int .i64 kd', .bool b', .int .i64 n', .float .f64 f', .string tx', .string ty', .slice ai' ni' ci', .slice af' nf' cf'] from fun j x hx => by
    rw [eW, Nat.zero_add, World.cell?_alloc_at _ _ _ _ (by simp)]; simpa using hx)
  have V_a := hide (VlC.below BW _ _ h1)
  have V_b := hide (VlC.below BW _ _ h2)
  have EW := hide eW
  have HI := hide (And.intro vI uI)
  have HF := hide (And.intro vF uF)
  clear eW h1 h2 vI vF uI uF q5 q6 q7 q8 p5 p6 p7 p8
  go_enter Try.func11, Try.ntmps11
  go_wp2_with (rw [← unhide EW]; refine wpList_load_mid (by rfl) 27 _ (by rfl) w.heap.size 0 (by rfl) [.int .i64 kd, .bool b, .int .i64 n, .float .f64 f, .string tx, .string ty, .slice ai ni ci, .slice af nf cf] _ (unhide R_a) Try.underlying27 (by rfl) infoV ?_)
  clear EW
  refine (rkind_ok (.mk kd b n f tx ty its fls) _ _ _ (unhide V_a)).mono ?_
  rintro e w1 ⟨rfl, g⟩
  rw [show kdV (Vl.mk kd b n f tx ty its fls) = 1 from hk]
  have R_a := hide (Row8.below (unhide R_a) g)
  have R_b := hide (Row8.below (unhide R_b) g)
  have V_a := hide (VlC.below g _ _ (unhide V_a))
  have V_b := hide (VlC.below g _ _ (unhide V_b))
  have BW : Below w.heap.size w w1 := BW.trans (g.mono BW.size)
  clear g
  go_wp2_with (refine wpList_load_mid (by rfl) 27 _ (by rfl) (w.heap.size + 1) 0 (by rfl) [.int .i64 kd', .bool b', .int .i64 n', .float .f64 f', .string tx', .string ty', .slice ai' ni' ci', .slice af' nf' cf'] _ (unhide R_b) Try.underlying27 (by rfl) infoV ?_)
  refine (rkind_ok (.mk kd' b' n' f' tx' ty' its' fls') _ _ _ (unhide V_b)).mono ?_
  rintro e w2 ⟨rfl, g⟩
  rw [show kdV (Vl.mk kd' b' n' f' tx' ty' its' fls') = 1 from hk']
  have R_a := hide (Row8.below (unhide R_a) g)
  have R_b := hide (Row8.below (unhide R_b) g)
  have V_a := hide (VlC.below g _ _ (unhide V_a))
  have V_b := hide (VlC.below g _ _ (unhide V_b))
  have BW : Below w.heap.size w w2 := BW.trans (g.mono BW.size)
  clear g
  have HG := hide (show ordV (.mk kd b n f tx ty its fls) (.mk kd' b' n' f' tx' ty' its' fls') = leafV 1 (.mk kd b n f tx ty its fls) (.mk kd' b' n' f' tx' ty' its' fls') by rw [ordV_kd (show kdW (Vl.mk kd b n f tx ty its fls) = kdW (Vl.mk kd' b' n' f' tx' ty' its' fls') from hk.trans hk'.symm), show kdW (Vl.mk kd b n f tx ty its fls) = 1 from hk])
  simp only [leafV, Int.reduceEq, if_true, if_false] at HG
  have x : w2.cell? ⟨w.heap.size, 1, none⟩ = some (.bool b) := (unhide R_a) 1 _ rfl
  have y : w2.cell? ⟨w.heap.size + 1, 1, none⟩ = some (.bool b') := (unhide R_b) 1 _ rfl
  go_wp2
  go_ret
  exact ⟨by rw [unhide HG, cBo_eq]; rfl, BW⟩
set_option maxHeartbeats 8000000 in
set_option maxRecDepth 6000 in
theorem req_2 (kd : Int) (b : Bool) (n : Int) (f : Nat) (tx ty : ByteArray) (its : Vls) (fls : Fls) (kd' : Int) (b' : Bool) (n' : Int) (f' : Nat) (tx' ty' : ByteArray) (its' : Vls) (fls' : Fls) (hk : kdOf kd = 2) (hk' : kdOf kd' = 2)  : REq (.mk kd b n f tx ty its fls) (.mk kd' b' n' f' tx' ty' its' fls') := by
  intro cs ds w h1 h2
  have hv := h1
  have hu := h2
  unfold VlC at hv hu
  obtain ⟨ai, ni, ci, af, nf, cf, rfl, vI, vF, q1, q2, q3, q4, q5, q6, q7, q8, q9, q10⟩ := hv
  obtain ⟨ai', ni', ci', af', nf', cf', rfl, uI, uF, p1, p2, p3, p4, p5, p6, p7, p8, p9, p10⟩ := hu
  obtain ⟨W, eW⟩ : ∃ W, W = ((w.alloc (.cells #[.int .i64 kd, .bool b, .int .i64 n, .float .f64 f, .string tx, .string ty, .slice ai ni ci, .slice af nf cf] 27)).alloc (.cells #[.int .i64 kd', .bool b', .int .i64 n', .float .f64 f', .string tx', .string ty', .slice ai' ni' ci', .slice af' nf' cf'] 27)) := ⟨_, rfl⟩
  have BW : Below w.heap.size w W := by rw [eW]; exact ((Below.refl _ _).alloc (Nat.le_refl _) _).alloc (by simp) _
  have R_a := hide (show Row8 W w.heap.size 0 [.int .i64 kd, .bool b, .int .i64 n, .float .f64 f, .string tx, .string ty, .slice ai ni ci, .slice af nf cf] from fun j x hx => by
    rw [eW, Nat.zero_add, World.cell?_alloc_past _ _ _ (by simp), World.cell?_alloc_at _ _ _ _ rfl]; simpa using hx)
  have R_b := hide (show Row8 W (w.heap.size + 1) 0 [.int .i64 kd', .bool b', .int .i64 n', .float .f64 f', .string tx', .string ty', .slice ai' ni' ci', .slice af' nf' cf'] from fun j x hx => by
    rw [eW, Nat.zero_add, World.cell?_alloc_at _ _ _ _ (by simp)]; simpa using hx)
  have V_a := hide (VlC.below BW _ _ h1)
  have V_b := hide (VlC.below BW _ _ h2)
  have EW := hide eW
  have HI := hide (And.intro vI uI)
  have HF := hide (And.intro vF uF)
  clear eW h1 h2 vI vF uI uF q5 q6 q7 q8 p5 p6 p7 p8
  go_enter Try.func11, Try.ntmps11
  go_wp2_with (rw [← unhide EW]; refine wpList_load_mid (by rfl) 27 _ (by rfl) w.heap.size 0 (by rfl) [.int .i64 kd, .bool b, .int .i64 n, .float .f64 f, .string tx, .string ty, .slice ai ni ci, .slice af nf cf] _ (unhide R_a) Try.underlying27 (by rfl) infoV ?_)
  clear EW
  refine (rkind_ok (.mk kd b n f tx ty its fls) _ _ _ (unhide V_a)).mono ?_
  rintro e w1 ⟨rfl, g⟩
  rw [show kdV (Vl.mk kd b n f tx ty its fls) = 2 from hk]
  have R_a := hide (Row8.below (unhide R_a) g)
  have R_b := hide (Row8.below (unhide R_b) g)
  have V_a := hide (VlC.below g _ _ (unhide V_a))
  have V_b := hide (VlC.below g _ _ (unhide V_b))
  have BW : Below w.heap.size w w1 := BW.trans (g.mono BW.size)
  clear g
  go_wp2_with (refine wpList_load_mid (by rfl) 27 _ (by rfl) (w.heap.size + 1) 0 (by rfl) [.int .i64 kd', .bool b', .int .i64 n', .float .f64 f', .string tx', .string ty', .slice ai' ni' ci', .slice af' nf' cf'] _ (unhide R_b) Try.underlying27 (by rfl) infoV ?_)
  refine (rkind_ok (.mk kd' b' n' f' tx' ty' its' fls') _ _ _ (unhide V_b)).mono ?_
  rintro e w2 ⟨rfl, g⟩
  rw [show kdV (Vl.mk kd' b' n' f' tx' ty' its' fls') = 2 from hk']
  have R_a := hide (Row8.below (unhide R_a) g)
  have R_b := hide (Row8.below (unhide R_b) g)
  have V_a := hide (VlC.below g _ _ (unhide V_a))
  have V_b := hide (VlC.below g _ _ (unhide V_b))
  have BW : Below w.heap.size w w2 := BW.trans (g.mono BW.size)
  clear g
  have HG := hide (show ordV (.mk kd b n f tx ty its fls) (.mk kd' b' n' f' tx' ty' its' fls') = leafV 2 (.mk kd b n f tx ty its fls) (.mk kd' b' n' f' tx' ty' its' fls') by rw [ordV_kd (show kdW (Vl.mk kd b n f tx ty its fls) = kdW (Vl.mk kd' b' n' f' tx' ty' its' fls') from hk.trans hk'.symm), show kdW (Vl.mk kd b n f tx ty its fls) = 2 from hk])
  simp only [leafV, Int.reduceEq, if_true, if_false] at HG
  have x : w2.cell? ⟨w.heap.size, 2, none⟩ = some (.int .i64 n) := (unhide R_a) 2 _ rfl
  have y : w2.cell? ⟨w.heap.size + 1, 2, none⟩ = some (.int .i64 n') := (unhide R_b) 2 _ rfl
  go_wp2
  go_ret
  exact ⟨by rw [unhide HG, c3_eqb]; rfl, BW⟩
set_option maxHeartbeats 8000000 in
set_option maxRecDepth 6000 in
theorem req_3 (kd : Int) (b : Bool) (n : Int) (f : Nat) (tx ty : ByteArray) (its : Vls) (fls : Fls) (kd' : Int) (b' : Bool) (n' : Int) (f' : Nat) (tx' ty' : ByteArray) (its' : Vls) (fls' : Fls) (hk : kdOf kd = 3) (hk' : kdOf kd' = 3) (hf : f < 18446744073709551616) (hf' : f' < 18446744073709551616) : REq (.mk kd b n f tx ty its fls) (.mk kd' b' n' f' tx' ty' its' fls') := by
  intro cs ds w h1 h2
  have hv := h1
  have hu := h2
  unfold VlC at hv hu
  obtain ⟨ai, ni, ci, af, nf, cf, rfl, vI, vF, q1, q2, q3, q4, q5, q6, q7, q8, q9, q10⟩ := hv
  obtain ⟨ai', ni', ci', af', nf', cf', rfl, uI, uF, p1, p2, p3, p4, p5, p6, p7, p8, p9, p10⟩ := hu
  obtain ⟨W, eW⟩ : ∃ W, W = ((w.alloc (.cells #[.int .i64 kd, .bool b, .int .i64 n, .float .f64 f, .string tx, .string ty, .slice ai ni ci, .slice af nf cf] 27)).alloc (.cells #[.int .i64 kd', .bool b', .int .i64 n', .float .f64 f', .string tx', .string ty', .slice ai' ni' ci', .slice af' nf' cf'] 27)) := ⟨_, rfl⟩
  have BW : Below w.heap.size w W := by rw [eW]; exact ((Below.refl _ _).alloc (Nat.le_refl _) _).alloc (by simp) _
  have R_a := hide (show Row8 W w.heap.size 0 [.int .i64 kd, .bool b, .int .i64 n, .float .f64 f, .string tx, .string ty, .slice ai ni ci, .slice af nf cf] from fun j x hx => by
    rw [eW, Nat.zero_add, World.cell?_alloc_past _ _ _ (by simp), World.cell?_alloc_at _ _ _ _ rfl]; simpa using hx)
  have R_b := hide (show Row8 W (w.heap.size + 1) 0 [.int .i64 kd', .bool b', .int .i64 n', .float .f64 f', .string tx', .string ty', .slice ai' ni' ci', .slice af' nf' cf'] from fun j x hx => by
    rw [eW, Nat.zero_add, World.cell?_alloc_at _ _ _ _ (by simp)]; simpa using hx)
  have V_a := hide (VlC.below BW _ _ h1)
  have V_b := hide (VlC.below BW _ _ h2)
  have EW := hide eW
  have HI := hide (And.intro vI uI)
  have HF := hide (And.intro vF uF)
  clear eW h1 h2 vI vF uI uF q5 q6 q7 q8 p5 p6 p7 p8
  go_enter Try.func11, Try.ntmps11
  go_wp2_with (rw [← unhide EW]; refine wpList_load_mid (by rfl) 27 _ (by rfl) w.heap.size 0 (by rfl) [.int .i64 kd, .bool b, .int .i64 n, .float .f64 f, .string tx, .string ty, .slice ai ni ci, .slice af nf cf] _ (unhide R_a) Try.underlying27 (by rfl) infoV ?_)
  clear EW
  refine (rkind_ok (.mk kd b n f tx ty its fls) _ _ _ (unhide V_a)).mono ?_
  rintro e w1 ⟨rfl, g⟩
  rw [show kdV (Vl.mk kd b n f tx ty its fls) = 3 from hk]
  have R_a := hide (Row8.below (unhide R_a) g)
  have R_b := hide (Row8.below (unhide R_b) g)
  have V_a := hide (VlC.below g _ _ (unhide V_a))
  have V_b := hide (VlC.below g _ _ (unhide V_b))
  have BW : Below w.heap.size w w1 := BW.trans (g.mono BW.size)
  clear g
  go_wp2_with (refine wpList_load_mid (by rfl) 27 _ (by rfl) (w.heap.size + 1) 0 (by rfl) [.int .i64 kd', .bool b', .int .i64 n', .float .f64 f', .string tx', .string ty', .slice ai' ni' ci', .slice af' nf' cf'] _ (unhide R_b) Try.underlying27 (by rfl) infoV ?_)
  refine (rkind_ok (.mk kd' b' n' f' tx' ty' its' fls') _ _ _ (unhide V_b)).mono ?_
  rintro e w2 ⟨rfl, g⟩
  rw [show kdV (Vl.mk kd' b' n' f' tx' ty' its' fls') = 3 from hk']
  have R_a := hide (Row8.below (unhide R_a) g)
  have R_b := hide (Row8.below (unhide R_b) g)
  have V_a := hide (VlC.below g _ _ (unhide V_a))
  have V_b := hide (VlC.below g _ _ (unhide V_b))
  have BW : Below w.heap.size w w2 := BW.trans (g.mono BW.size)
  clear g
  have HG := hide (show ordV (.mk kd b n f tx ty its fls) (.mk kd' b' n' f' tx' ty' its' fls') = leafV 3 (.mk kd b n f tx ty its fls) (.mk kd' b' n' f' tx' ty' its' fls') by rw [ordV_kd (show kdW (Vl.mk kd b n f tx ty its fls) = kdW (Vl.mk kd' b' n' f' tx' ty' its' fls') from hk.trans hk'.symm), show kdW (Vl.mk kd b n f tx ty its fls) = 3 from hk])
  simp only [leafV, Int.reduceEq, if_true, if_false] at HG
  have x : w2.cell? ⟨w.heap.size, 3, none⟩ = some (.float .f64 f) := (unhide R_a) 3 _ rfl
  have y : w2.cell? ⟨w.heap.size + 1, 3, none⟩ = some (.float .f64 f') := (unhide R_b) 3 _ rfl
  go_wp2_with fail
  refine (sfl_ok f f' hf hf' w2).mono ?_
  rintro e w3 ⟨rfl, rfl⟩
  clear x y
  go_wp2
  go_ret
  exact ⟨by rw [unhide HG]; rfl, BW⟩
set_option maxHeartbeats 8000000 in
set_option maxRecDepth 6000 in
theorem req_4 (kd : Int) (b : Bool) (n : Int) (f : Nat) (tx ty : ByteArray) (its : Vls) (fls : Fls) (kd' : Int) (b' : Bool) (n' : Int) (f' : Nat) (tx' ty' : ByteArray) (its' : Vls) (fls' : Fls) (hk : kdOf kd = 4) (hk' : kdOf kd' = 4)  : REq (.mk kd b n f tx ty its fls) (.mk kd' b' n' f' tx' ty' its' fls') := by
  intro cs ds w h1 h2
  have hv := h1
  have hu := h2
  unfold VlC at hv hu
  obtain ⟨ai, ni, ci, af, nf, cf, rfl, vI, vF, q1, q2, q3, q4, q5, q6, q7, q8, q9, q10⟩ := hv
  obtain ⟨ai', ni', ci', af', nf', cf', rfl, uI, uF, p1, p2, p3, p4, p5, p6, p7, p8, p9, p10⟩ := hu
  obtain ⟨W, eW⟩ : ∃ W, W = ((w.alloc (.cells #[.int .i64 kd, .bool b, .int .i64 n, .float .f64 f, .string tx, .string ty, .slice ai ni ci, .slice af nf cf] 27)).alloc (.cells #[.int .i64 kd', .bool b', .int .i64 n', .float .f64 f', .string tx', .string ty', .slice ai' ni' ci', .slice af' nf' cf'] 27)) := ⟨_, rfl⟩
  have BW : Below w.heap.size w W := by rw [eW]; exact ((Below.refl _ _).alloc (Nat.le_refl _) _).alloc (by simp) _
  have R_a := hide (show Row8 W w.heap.size 0 [.int .i64 kd, .bool b, .int .i64 n, .float .f64 f, .string tx, .string ty, .slice ai ni ci, .slice af nf cf] from fun j x hx => by
    rw [eW, Nat.zero_add, World.cell?_alloc_past _ _ _ (by simp), World.cell?_alloc_at _ _ _ _ rfl]; simpa using hx)
  have R_b := hide (show Row8 W (w.heap.size + 1) 0 [.int .i64 kd', .bool b', .int .i64 n', .float .f64 f', .string tx', .string ty', .slice ai' ni' ci', .slice af' nf' cf'] from fun j x hx => by
    rw [eW, Nat.zero_add, World.cell?_alloc_at _ _ _ _ (by simp)]; simpa using hx)
  have V_a := hide (VlC.below BW _ _ h1)
  have V_b := hide (VlC.below BW _ _ h2)
  have EW := hide eW
  have HI := hide (And.intro vI uI)
  have HF := hide (And.intro vF uF)
  clear eW h1 h2 vI vF uI uF q5 q6 q7 q8 p5 p6 p7 p8
  go_enter Try.func11, Try.ntmps11
  go_wp2_with (rw [← unhide EW]; refine wpList_load_mid (by rfl) 27 _ (by rfl) w.heap.size 0 (by rfl) [.int .i64 kd, .bool b, .int .i64 n, .float .f64 f, .string tx, .string ty, .slice ai ni ci, .slice af nf cf] _ (unhide R_a) Try.underlying27 (by rfl) infoV ?_)
  clear EW
  refine (rkind_ok (.mk kd b n f tx ty its fls) _ _ _ (unhide V_a)).mono ?_
  rintro e w1 ⟨rfl, g⟩
  rw [show kdV (Vl.mk kd b n f tx ty its fls) = 4 from hk]
  have R_a := hide (Row8.below (unhide R_a) g)
  have R_b := hide (Row8.below (unhide R_b) g)
  have V_a := hide (VlC.below g _ _ (unhide V_a))
  have V_b := hide (VlC.below g _ _ (unhide V_b))
  have BW : Below w.heap.size w w1 := BW.trans (g.mono BW.size)
  clear g
  go_wp2_with (refine wpList_load_mid (by rfl) 27 _ (by rfl) (w.heap.size + 1) 0 (by rfl) [.int .i64 kd', .bool b', .int .i64 n', .float .f64 f', .string tx', .string ty', .slice ai' ni' ci', .slice af' nf' cf'] _ (unhide R_b) Try.underlying27 (by rfl) infoV ?_)
  refine (rkind_ok (.mk kd' b' n' f' tx' ty' its' fls') _ _ _ (unhide V_b)).mono ?_
  rintro e w2 ⟨rfl, g⟩
  rw [show kdV (Vl.mk kd' b' n' f' tx' ty' its' fls') = 4 from hk']
  have R_a := hide (Row8.below (unhide R_a) g)
  have R_b := hide (Row8.below (unhide R_b) g)
  have V_a := hide (VlC.below g _ _ (unhide V_a))
  have V_b := hide (VlC.below g _ _ (unhide V_b))
  have BW : Below w.heap.size w w2 := BW.trans (g.mono BW.size)
  clear g
  have HG := hide (show ordV (.mk kd b n f tx ty its fls) (.mk kd' b' n' f' tx' ty' its' fls') = leafV 4 (.mk kd b n f tx ty its fls) (.mk kd' b' n' f' tx' ty' its' fls') by rw [ordV_kd (show kdW (Vl.mk kd b n f tx ty its fls) = kdW (Vl.mk kd' b' n' f' tx' ty' its' fls') from hk.trans hk'.symm), show kdW (Vl.mk kd b n f tx ty its fls) = 4 from hk])
  simp only [leafV, Int.reduceEq, if_true, if_false] at HG
  have x : w2.cell? ⟨w.heap.size, 4, none⟩ = some (.string tx) := (unhide R_a) 4 _ rfl
  have y : w2.cell? ⟨w.heap.size + 1, 4, none⟩ = some (.string tx') := (unhide R_b) 4 _ rfl
  go_wp2
  go_ret
  exact ⟨by rw [unhide HG, cB_eqb]; rw [← str_beq]; rfl, BW⟩
set_option maxHeartbeats 8000000 in
set_option maxRecDepth 6000 in
theorem req_7 (kd : Int) (b : Bool) (n : Int) (f : Nat) (tx ty : ByteArray) (its : Vls) (fls : Fls) (kd' : Int) (b' : Bool) (n' : Int) (f' : Nat) (tx' ty' : ByteArray) (its' : Vls) (fls' : Fls) (hk : kdOf kd = 7) (hk' : kdOf kd' = 7)  : REq (.mk kd b n f tx ty its fls) (.mk kd' b' n' f' tx' ty' its' fls') := by
  intro cs ds w h1 h2
  have hv := h1
  have hu := h2
  unfold VlC at hv hu
  obtain ⟨ai, ni, ci, af, nf, cf, rfl, vI, vF, q1, q2, q3, q4, q5, q6, q7, q8, q9, q10⟩ := hv
  obtain ⟨ai', ni', ci', af', nf', cf', rfl, uI, uF, p1, p2, p3, p4, p5, p6, p7, p8, p9, p10⟩ := hu
  obtain ⟨W, eW⟩ : ∃ W, W = ((w.alloc (.cells #[.int .i64 kd, .bool b, .int .i64 n, .float .f64 f, .string tx, .string ty, .slice ai ni ci, .slice af nf cf] 27)).alloc (.cells #[.int .i64 kd', .bool b', .int .i64 n', .float .f64 f', .string tx', .string ty', .slice ai' ni' ci', .slice af' nf' cf'] 27)) := ⟨_, rfl⟩
  have BW : Below w.heap.size w W := by rw [eW]; exact ((Below.refl _ _).alloc (Nat.le_refl _) _).alloc (by simp) _
  have R_a := hide (show Row8 W w.heap.size 0 [.int .i64 kd, .bool b, .int .i64 n, .float .f64 f, .string tx, .string ty, .slice ai ni ci, .slice af nf cf] from fun j x hx => by
    rw [eW, Nat.zero_add, World.cell?_alloc_past _ _ _ (by simp), World.cell?_alloc_at _ _ _ _ rfl]; simpa using hx)
  have R_b := hide (show Row8 W (w.heap.size + 1) 0 [.int .i64 kd', .bool b', .int .i64 n', .float .f64 f', .string tx', .string ty', .slice ai' ni' ci', .slice af' nf' cf'] from fun j x hx => by
    rw [eW, Nat.zero_add, World.cell?_alloc_at _ _ _ _ (by simp)]; simpa using hx)
  have V_a := hide (VlC.below BW _ _ h1)
  have V_b := hide (VlC.below BW _ _ h2)
  have EW := hide eW
  have HI := hide (And.intro vI uI)
  have HF := hide (And.intro vF uF)
  clear eW h1 h2 vI vF uI uF q5 q6 q7 q8 p5 p6 p7 p8
  go_enter Try.func11, Try.ntmps11
  go_wp2_with (rw [← unhide EW]; refine wpList_load_mid (by rfl) 27 _ (by rfl) w.heap.size 0 (by rfl) [.int .i64 kd, .bool b, .int .i64 n, .float .f64 f, .string tx, .string ty, .slice ai ni ci, .slice af nf cf] _ (unhide R_a) Try.underlying27 (by rfl) infoV ?_)
  clear EW
  refine (rkind_ok (.mk kd b n f tx ty its fls) _ _ _ (unhide V_a)).mono ?_
  rintro e w1 ⟨rfl, g⟩
  rw [show kdV (Vl.mk kd b n f tx ty its fls) = 7 from hk]
  have R_a := hide (Row8.below (unhide R_a) g)
  have R_b := hide (Row8.below (unhide R_b) g)
  have V_a := hide (VlC.below g _ _ (unhide V_a))
  have V_b := hide (VlC.below g _ _ (unhide V_b))
  have BW : Below w.heap.size w w1 := BW.trans (g.mono BW.size)
  clear g
  go_wp2_with (refine wpList_load_mid (by rfl) 27 _ (by rfl) (w.heap.size + 1) 0 (by rfl) [.int .i64 kd', .bool b', .int .i64 n', .float .f64 f', .string tx', .string ty', .slice ai' ni' ci', .slice af' nf' cf'] _ (unhide R_b) Try.underlying27 (by rfl) infoV ?_)
  refine (rkind_ok (.mk kd' b' n' f' tx' ty' its' fls') _ _ _ (unhide V_b)).mono ?_
  rintro e w2 ⟨rfl, g⟩
  rw [show kdV (Vl.mk kd' b' n' f' tx' ty' its' fls') = 7 from hk']
  have R_a := hide (Row8.below (unhide R_a) g)
  have R_b := hide (Row8.below (unhide R_b) g)
  have V_a := hide (VlC.below g _ _ (unhide V_a))
  have V_b := hide (VlC.below g _ _ (unhide V_b))
  have BW : Below w.heap.size w w2 := BW.trans (g.mono BW.size)
  clear g
  have HG := hide (show ordV (.mk kd b n f tx ty its fls) (.mk kd' b' n' f' tx' ty' its' fls') = leafV 7 (.mk kd b n f tx ty its fls) (.mk kd' b' n' f' tx' ty' its' fls') by rw [ordV_kd (show kdW (Vl.mk kd b n f tx ty its fls) = kdW (Vl.mk kd' b' n' f' tx' ty' its' fls') from hk.trans hk'.symm), show kdW (Vl.mk kd b n f tx ty its fls) = 7 from hk])
  simp only [leafV, Int.reduceEq, if_true, if_false] at HG
  have x : w2.cell? ⟨w.heap.size, 5, none⟩ = some (.string ty) := (unhide R_a) 5 _ rfl
  have y : w2.cell? ⟨w.heap.size + 1, 5, none⟩ = some (.string ty') := (unhide R_b) 5 _ rfl
  have z : w2.cell? ⟨w.heap.size, 4, none⟩ = some (.string tx) := (unhide R_a) 4 _ rfl
  have t : w2.cell? ⟨w.heap.size + 1, 4, none⟩ = some (.string tx') := (unhide R_b) 4 _ rfl
  by_cases hy : ty = ty'
  · subst hy
    have hyb : (ty.toList == ty.toList) = true := by rw [str_beq]; exact decide_eq_true rfl
    go_wp2
    go_ret
    exact ⟨by rw [unhide HG, thn_eqb, cB_eqb, cB_eqb, decide_eq_true rfl, ← str_beq, Bool.true_and]; rfl, BW⟩
  · have hyb : (ty.toList == ty'.toList) = false := by rw [str_beq]; exact decide_eq_false hy
    go_wp2
    go_ret
    exact ⟨by rw [unhide HG, thn_eqb, cB_eqb, cB_eqb, decide_eq_false hy]; rfl, BW⟩
set_option maxHeartbeats 8000000 in
set_option maxRecDepth 6000 in
theorem req_5 (kd : Int) (b : Bool) (n : Int) (f : Nat) (tx ty : ByteArray) (its : Vls) (fls : Fls) (kd' : Int) (b' : Bool) (n' : Int) (f' : Nat) (tx' ty' : ByteArray) (its' : Vls) (fls' : Fls) (hk : kdOf kd = 5) (hk' : kdOf kd' = 5) (ih : ∀ v ∈ its.list, ∀ u ∈ its'.list, REq v u) : REq (.mk kd b n f tx ty its fls) (.mk kd' b' n' f' tx' ty' its' fls') := by
  intro cs ds w h1 h2
  have hv := h1
  have hu := h2
  unfold VlC at hv hu
  obtain ⟨ai, ni, ci, af, nf, cf, rfl, vI, vF, q1, q2, q3, q4, q5, q6, q7, q8, q9, q10⟩ := hv
  obtain ⟨ai', ni', ci', af', nf', cf', rfl, uI, uF, p1, p2, p3, p4, p5, p6, p7, p8, p9, p10⟩ := hu
  obtain ⟨W, eW⟩ : ∃ W, W = ((w.alloc (.cells #[.int .i64 kd, .bool b, .int .i64 n, .float .f64 f, .string tx, .string ty, .slice ai ni ci, .slice af nf cf] 27)).alloc (.cells #[.int .i64 kd', .bool b', .int .i64 n', .float .f64 f', .string tx', .string ty', .slice ai' ni' ci', .slice af' nf' cf'] 27)) := ⟨_, rfl⟩
  have BW : Below w.heap.size w W := by rw [eW]; exact ((Below.refl _ _).alloc (Nat.le_refl _) _).alloc (by simp) _
  have R_a := hide (show Row8 W w.heap.size 0 [.int .i64 kd, .bool b, .int .i64 n, .float .f64 f, .string tx, .string ty, .slice ai ni ci, .slice af nf cf] from fun j x hx => by
    rw [eW, Nat.zero_add, World.cell?_alloc_past _ _ _ (by simp), World.cell?_alloc_at _ _ _ _ rfl]; simpa using hx)
  have R_b := hide (show Row8 W (w.heap.size + 1) 0 [.int .i64 kd', .bool b', .int .i64 n', .float .f64 f', .string tx', .string ty', .slice ai' ni' ci', .slice af' nf' cf'] from fun j x hx => by
    rw [eW, Nat.zero_add, World.cell?_alloc_at _ _ _ _ (by simp)]; simpa using hx)
  have V_a := hide (VlC.below BW _ _ h1)
  have V_b := hide (VlC.below BW _ _ h2)
  have EW := hide eW
  have HI := hide (And.intro vI uI)
  have HF := hide (And.intro vF uF)
  clear eW h1 h2 vI vF uI uF q5 q6 q7 q8 p5 p6 p7 p8
  go_enter Try.func11, Try.ntmps11
  go_wp2_with (rw [← unhide EW]; refine wpList_load_mid (by rfl) 27 _ (by rfl) w.heap.size 0 (by rfl) [.int .i64 kd, .bool b, .int .i64 n, .float .f64 f, .string tx, .string ty, .slice ai ni ci, .slice af nf cf] _ (unhide R_a) Try.underlying27 (by rfl) infoV ?_)
  clear EW
  refine (rkind_ok (.mk kd b n f tx ty its fls) _ _ _ (unhide V_a)).mono ?_
  rintro e w1 ⟨rfl, g⟩
  rw [show kdV (Vl.mk kd b n f tx ty its fls) = 5 from hk]
  have R_a := hide (Row8.below (unhide R_a) g)
  have R_b := hide (Row8.below (unhide R_b) g)
  have V_a := hide (VlC.below g _ _ (unhide V_a))
  have V_b := hide (VlC.below g _ _ (unhide V_b))
  have BW : Below w.heap.size w w1 := BW.trans (g.mono BW.size)
  clear g
  go_wp2_with (refine wpList_load_mid (by rfl) 27 _ (by rfl) (w.heap.size + 1) 0 (by rfl) [.int .i64 kd', .bool b', .int .i64 n', .float .f64 f', .string tx', .string ty', .slice ai' ni' ci', .slice af' nf' cf'] _ (unhide R_b) Try.underlying27 (by rfl) infoV ?_)
  refine (rkind_ok (.mk kd' b' n' f' tx' ty' its' fls') _ _ _ (unhide V_b)).mono ?_
  rintro e w2 ⟨rfl, g⟩
  rw [show kdV (Vl.mk kd' b' n' f' tx' ty' its' fls') = 5 from hk']
  have R_a := hide (Row8.below (unhide R_a) g)
  have R_b := hide (Row8.below (unhide R_b) g)
  have V_a := hide (VlC.below g _ _ (unhide V_a))
  have V_b := hide (VlC.below g _ _ (unhide V_b))
  have BW : Below w.heap.size w w2 := BW.trans (g.mono BW.size)
  clear g
  have HG := hide (show ordV (.mk kd b n f tx ty its fls) (.mk kd' b' n' f' tx' ty' its' fls') = leafV 5 (.mk kd b n f tx ty its fls) (.mk kd' b' n' f' tx' ty' its' fls') by rw [ordV_kd (show kdW (Vl.mk kd b n f tx ty its fls) = kdW (Vl.mk kd' b' n' f' tx' ty' its' fls') from hk.trans hk'.symm), show kdW (Vl.mk kd b n f tx ty its fls) = 5 from hk])
  simp only [leafV, Int.reduceEq, if_true, if_false] at HG
  have x : w2.cell? ⟨w.heap.size, 6, none⟩ = some (.slice ai ni ci) := (unhide R_a) 6 _ rfl
  have y : w2.cell? ⟨w.heap.size + 1, 6, none⟩ = some (.slice ai' ni' ci') := (unhide R_b) 6 _ rfl
  have l1 := hide (VlsAt.len its _ _ (unhide HI).1)
  have l2 := hide (VlsAt.len its' _ _ (unhide HI).2)
  by_cases hn : ni = ni'
  · subst hn
    have BN : ni ≤ 9223372036854775807 := by have h9 := q9; have h10 := q10; unfold maxLen at h9 h10; omega
    go_wp2_with fail
    go_loopw [6] (fun vi wr => ∃ k : Nat, k ≤ ni ∧ vi = .int .i64 k ∧ vl.Hid (Gb w2 wr) ∧ vl.Hid (lexG ordV its.list its'.list = lexG ordV (its.list.drop k) (its'.list.drop k))) (fun vi _ => ni - (intOf vi).toNat)
    case atStart => exact ⟨0, Nat.zero_le _, rfl, Gb.refl _, rfl⟩
    case round =>
      clear x y
      obtain ⟨k, hk1, rfl, HB, hl⟩ := hrel
      have x : wr.cell? ⟨w.heap.size, 6, none⟩ = some (.slice ai ni ci) := (Row8.below (unhide R_a) (unhide HB)) 6 _ rfl
      have y : wr.cell? ⟨w.heap.size + 1, 6, none⟩ = some (.slice ai' ni ci') := (Row8.below (unhide R_b) (unhide HB)) 6 _ rfl
      have G2 : Below w.heap.size w wr := BW.trans (Below.mono (unhide HB) BW.size)
      by_cases hlt : k < ni
      · have ki : (k : Int) < (ni : Int) := by omega
        obtain ⟨p, off, v, us, rfl, hg, hr, hv⟩ := VlsAt.get its _ _ (VlsAt.below G2 its _ _ (unhide HI).1) k hlt
        obtain ⟨p', off', u, us', rfl, hg', hr', hv'⟩ := VlsAt.get its' _ _ (VlsAt.below G2 its' _ _ (unhide HI).2) k hlt
        have IH := hide (ih v (List.mem_of_getElem? hg) u (List.mem_of_getElem? hg'))
        have iu : (Try.prog.info? 27).map (·.size) = some us.length := by rw [hv.cells]; exact infoV
        have iu' : (Try.prog.info? 27).map (·.size) = some us'.length := by rw [hv'.cells]; exact infoV
        have HS := hide (lexG_step (f := ordV) hg hg')
        have U1 := hide (And.intro hr (And.intro hv iu))
        have U2 := hide (And.intro hr' (And.intro hv' iu'))
        clear hg hg' hr hr' hv hv' iu iu'
        go_wp2_with fail
        refine wp_region_noPanic ?_
        have hS0 : Gb wr { wr with drawn := wr.drawn + 1 } ∧ ({ wr with drawn := wr.drawn + 1 } : World).cell? ⟨w.heap.size, 6, none⟩ = some (.slice (some ⟨p, off, none⟩) ni ci) ∧ ({ wr with drawn := wr.drawn + 1 } : World).cell? ⟨w.heap.size + 1, 6, none⟩ = some (.slice (some ⟨p', off', none⟩) ni ci') := ⟨Gb.drew (Gb.refl _), x, y⟩
        have mkS : ∀ w', Gb wr w' → Gb wr w' ∧ w'.cell? ⟨w.heap.size, 6, none⟩ = some (.slice (some ⟨p, off, none⟩) ni ci) ∧ w'.cell? ⟨w.heap.size + 1, 6, none⟩ = some (.slice (some ⟨p', off', none⟩) ni ci') := fun w' h => ⟨h, (Row8.below (Row8.below (unhide R_a) (unhide HB)) h) 6 _ rfl, (Row8.below (Row8.below (unhide R_b) (unhide HB)) h) 6 _ rfl⟩
        have MK := hide mkS
        clear mkS x y
        refine wp_region_held (S := fun w' => Gb wr w' ∧ w'.cell? ⟨w.heap.size, 6, none⟩ = some (.slice (some ⟨p, off, none⟩) ni ci) ∧ w'.cell? ⟨w.heap.size + 1, 6, none⟩ = some (.slice (some ⟨p', off', none⟩) ni ci')) mixed ?_
        refine wpAnyH_take (i := 0) (v := ?v1) rfl (by kernel_rfl) (by kernel_rfl) (by kernel_rfl) (fun _ _ _ h => h) (Or.inl ⟨by rfl, ?hy1⟩) hS0 ?_
        case hy1 => (intro w' hw'; obtain ⟨hb', c7, d7⟩ := hw'; clear hb'; go_simp; try with_reducible rfl)
        simp only [List.getElem_toArray, List.getElem_cons_zero, List.getElem_cons_succ, Act.put, List.setIfInBounds_toArray, List.set_cons_zero, List.set_cons_succ]
        refine wpAnyH_take (i := 1) (v := ?v2) rfl (by kernel_rfl) (by kernel_rfl) (by kernel_rfl) (fun _ _ _ h => h) (Or.inl ⟨by rfl, ?hy2⟩) hS0 ?_
        case hy2 => (intro w' hw'; obtain ⟨hb', c7, d7⟩ := hw'; clear hb'; go_simp; try with_reducible rfl)
        simp only [List.getElem_toArray, List.getElem_cons_zero, List.getElem_cons_succ, Act.put, List.setIfInBounds_toArray, List.set_cons_zero, List.set_cons_succ]
        refine wpAnyH_take (i := 2) (v := ?v3) rfl (by kernel_rfl) (by kernel_rfl) (by kernel_rfl) (fun _ _ _ h => h) (Or.inl ⟨by rfl, ?hy3⟩) hS0 ?_
        case hy3 => (intro w' hw'; obtain ⟨hb', c7, d7⟩ := hw'; clear hb'; go_simp; try with_reducible rfl)
        simp only [List.getElem_toArray, List.getElem_cons_zero, List.getElem_cons_succ, Act.put, List.setIfInBounds_toArray, List.set_cons_zero, List.set_cons_succ]
        refine wpAnyH_take (i := 3) (v := ?v4) rfl (by kernel_rfl) (by kernel_rfl) (by kernel_rfl) (fun _ _ _ h => h) (Or.inl ⟨by rfl, ?hy4⟩) hS0 ?_
        case hy4 => (intro w' hw'; obtain ⟨hb', c7, d7⟩ := hw'; clear hb'; go_simp; try with_reducible rfl)
        simp only [List.getElem_toArray, List.getElem_cons_zero, List.getElem_cons_succ, Act.put, List.setIfInBounds_toArray, List.set_cons_zero, List.set_cons_succ]
        refine wpAnyH_take (i := 4) rfl (by kernel_rfl) (by kernel_rfl) (by kernel_rfl) (fun _ _ _ h => h) (yieldsIf_load_mid (by rfl) 27 _ (by rfl) p (off + k * 8) (by rfl) us _ (fun w' hw' => Row8.below (unhide U1).1 hw'.1) Try.underlying27 (by rfl) (unhide U1).2.2) hS0 ?_
        simp only [List.getElem_toArray, List.getElem_cons_zero, List.getElem_cons_succ, Act.put, List.setIfInBounds_toArray, List.set_cons_zero, List.set_cons_succ]
        refine wpAnyH_take (i := 5) (v := ?v5) rfl (by kernel_rfl) (by kernel_rfl) (by kernel_rfl) (fun _ _ _ h => h) (Or.inl ⟨by rfl, ?hy5⟩) hS0 ?_
        case hy5 => (intro w' hw'; obtain ⟨hb', c7, d7⟩ := hw'; clear hb'; go_simp; try with_reducible rfl)
        simp only [List.getElem_toArray, List.getElem_cons_zero, List.getElem_cons_succ, Act.put, List.setIfInBounds_toArray, List.set_cons_zero, List.set_cons_succ]
        refine wpAnyH_take (i := 6) (v := ?v6) rfl (by kernel_rfl) (by kernel_rfl) (by kernel_rfl) (fun _ _ _ h => h) (Or.inl ⟨by rfl, ?hy6⟩) hS0 ?_
        case hy6 => (intro w' hw'; obtain ⟨hb', c7, d7⟩ := hw'; clear hb'; go_simp; try with_reducible rfl)
        simp only [List.getElem_toArray, List.getElem_cons_zero, List.getElem_cons_succ, Act.put, List.setIfInBounds_toArray, List.set_cons_zero, List.set_cons_succ]
        refine wpAnyH_take (i := 7) (v := ?v7) rfl (by kernel_rfl) (by kernel_rfl) (by kernel_rfl) (fun _ _ _ h => h) (Or.inl ⟨by rfl, ?hy7⟩) hS0 ?_
        case hy7 => (intro w' hw'; obtain ⟨hb', c7, d7⟩ := hw'; clear hb'; go_simp; try with_reducible rfl)
        simp only [List.getElem_toArray, List.getElem_cons_zero, List.getElem_cons_succ, Act.put, List.setIfInBounds_toArray, List.set_cons_zero, List.set_cons_succ]
        refine wpAnyH_take (i := 8) (v := ?v8) rfl (by kernel_rfl) (by kernel_rfl) (by kernel_rfl) (fun _ _ _ h => h) (Or.inl ⟨by rfl, ?hy8⟩) hS0 ?_
        case hy8 => (intro w' hw'; obtain ⟨hb', c7, d7⟩ := hw'; clear hb'; go_simp; try with_reducible rfl)
        simp only [List.getElem_toArray, List.getElem_cons_zero, List.getElem_cons_succ, Act.put, List.setIfInBounds_toArray, List.set_cons_zero, List.set_cons_succ]
        refine wpAnyH_take (i := 9) rfl (by kernel_rfl) (by kernel_rfl) (by kernel_rfl) (fun _ _ _ h => h) (yieldsIf_load_mid (by rfl) 27 _ (by rfl) p' (off' + k * 8) (by rfl) us' _ (fun w' hw' => Row8.below (unhide U2).1 hw'.1) Try.underlying27 (by rfl) (unhide U2).2.2) hS0 ?_
        simp only [List.getElem_toArray, List.getElem_cons_zero, List.getElem_cons_succ, Act.put, List.setIfInBounds_toArray, List.set_cons_zero, List.set_cons_succ]
        refine rgn.one (i := 10) _ rfl (by kernel_rfl) (by rfl) ?_
        simp only [List.getElem_toArray, List.getElem_cons_zero, List.getElem_cons_succ, Act.put, List.setIfInBounds_toArray, List.set_cons_zero, List.set_cons_succ]
        go_wp2_with fail
        refine ((unhide IH) us us' _ (VlC.below hS0.1 _ _ (unhide U1).2.1) (VlC.below hS0.1 _ _ (unhide U2).2.1)).mono ?_
        rintro e w3 ⟨rfl, g3⟩
        have hS0 := (unhide MK) w3 (hS0.1.trans (g3.mono hS0.1.size))
        refine ⟨hS0, ?_⟩
        obtain ⟨hb, -, -⟩ := hS0
        have hS0 := (unhide MK) w3 hb
        by_cases hc : ordV v u = 0
        · have hc2 := hide hc
          rw [hc]
          clear hc
          refine wpAnyH_take (i := 11) (v := ?v9) rfl (by kernel_rfl) (by kernel_rfl) (by kernel_rfl) (fun _ _ _ h => h) (Or.inl ⟨by rfl, ?hy9⟩) hS0 ?_
          case hy9 => (intro w' hw'; clear hw'; go_simp; try with_reducible rfl)
          simp only [List.getElem_toArray, List.getElem_cons_zero, List.getElem_cons_succ, Act.put, List.setIfInBounds_toArray, List.set_cons_zero, List.set_cons_succ]
          refine wpAnyH_done (by kernel_rfl) ?_ _; refine NoPanic.normal ?_
          clear hS0
          go_wp2
          go_roundw
          case rel => exact ⟨k + 1, by omega, by go_num, (unhide HB).trans (Below.mono hb (unhide HB).size), (unhide hl).trans ((unhide HS).trans (if_pos (unhide hc2)))⟩
          case measure => simp [intOf]; omega
        · have hc2 := hide hc
          rw [show (ordV v u == 0) = false by simpa using hc]
          clear hc
          refine wpAnyH_take (i := 11) (v := ?v10) rfl (by kernel_rfl) (by kernel_rfl) (by kernel_rfl) (fun _ _ _ h => h) (Or.inl ⟨by rfl, ?hy10⟩) hS0 ?_
          case hy10 => (intro w' hw'; clear hw'; go_simp; try with_reducible rfl)
          simp only [List.getElem_toArray, List.getElem_cons_zero, List.getElem_cons_succ, Act.put, List.setIfInBounds_toArray, List.set_cons_zero, List.set_cons_succ]
          refine wpAnyH_done (by kernel_rfl) ?_ _; refine NoPanic.normal ?_
          have G3 := G2.trans (Below.mono hb G2.size)
          clear hS0
          go_wp2
          go_ret
          exact ⟨by rw [unhide HG, unhide hl, unhide HS, if_neg (unhide hc2)]; simpa using (unhide hc2), G3⟩
      · obtain rfl : k = ni := by omega
        go_wp2
        go_ret
        exact ⟨by rw [unhide HG, unhide hl, lexG_end0 (by rw [unhide l1]; omega) (by rw [unhide l2]; omega)]; rfl, G2⟩
  · have HN := hide (show lexG ordV its.list its'.list ≠ 0 from fun e => hn (by have := P2.length (p2_lexG e); rw [unhide l1, unhide l2] at this; exact this))
    have hn2 : (ni : Int) ≠ ni' := by omega
    go_wp2
    go_ret
    exact ⟨by rw [unhide HG]; simpa using (unhide HN), BW⟩
set_option maxHeartbeats 8000000 in
set_option maxRecDepth 6000 in
theorem req_6 (kd : Int) (b : Bool) (n : Int) (f : Nat) (tx ty : ByteArray) (its : Vls) (fls : Fls) (kd' : Int) (b' : Bool) (n' : Int) (f' : Nat) (tx' ty' : ByteArray) (its' : Vls) (fls' : Fls) (hk : kdOf kd = 6) (hk' : kdOf kd' = 6) (ih : ∀ q ∈ fls.list, ∀ r ∈ fls'.list, REq q.2 r.2) : REq (.mk kd b n f tx ty its fls) (.mk kd' b' n' f' tx' ty' its' fls') := by
  intro cs ds w h1 h2
  have hv := h1
  have hu := h2
  unfold VlC at hv hu
  obtain ⟨ai, ni, ci, af, nf, cf, rfl, vI, vF, q1, q2, q3, q4, q5, q6, q7, q8, q9, q10⟩ := hv
  obtain ⟨ai', ni', ci', af', nf', cf', rfl, uI, uF, p1, p2, p3, p4, p5, p6, p7, p8, p9, p10⟩ := hu
  obtain ⟨W, eW⟩ : ∃ W, W = ((w.alloc (.cells #[.int .i64 kd, .bool b, .int .i64 n, .float .f64 f, .string tx, .string ty, .slice ai ni ci, .slice af nf cf] 27)).alloc (.cells #[.int .i64 kd', .bool b', .int .i64 n', .float .f64 f', .string tx', .string ty', .slice ai' ni' ci', .slice af' nf' cf'] 27)) := ⟨_, rfl⟩
  have BW : Below w.heap.size w W := by rw [eW]; exact ((Below.refl _ _).alloc (Nat.le_refl _) _).alloc (by simp) _
  have R_a := hide (show Row8 W w.heap.size 0 [.int .i64 kd, .bool b, .int .i64 n, .float .f64 f, .string tx, .string ty, .slice ai ni ci, .slice af nf cf] from fun j x hx => by
    rw [eW, Nat.zero_add, World.cell?_alloc_past _ _ _ (by simp), World.cell?_alloc_at _ _ _ _ rfl]; simpa using hx)
  have R_b := hide (show Row8 W (w.heap.size + 1) 0 [.int .i64 kd', .bool b', .int .i64 n', .float .f64 f', .string tx', .string ty', .slice ai' ni' ci', .slice af' nf' cf'] from fun j x hx => by
    rw [eW, Nat.zero_add, World.cell?_alloc_at _ _ _ _ (by simp)]; simpa using hx)
  have V_a := hide (VlC.below BW _ _ h1)
  have V_b := hide (VlC.below BW _ _ h2)
  have EW := hide eW
  have HI := hide (And.intro vI uI)
  have HF := hide (And.intro vF uF)
  clear eW h1 h2 vI vF uI uF q5 q6 q7 q8 p5 p6 p7 p8
  go_enter Try.func11, Try.ntmps11
  go_wp2_with (rw [← unhide EW]; refine wpList_load_mid (by rfl) 27 _ (by rfl) w.heap.size 0 (by rfl) [.int .i64 kd, .bool b, .int .i64 n, .float .f64 f, .string tx, .string ty, .slice ai ni ci, .slice af nf cf] _ (unhide R_a) Try.underlying27 (by rfl) infoV ?_)
  clear EW
  refine (rkind_ok (.mk kd b n f tx ty its fls) _ _ _ (unhide V_a)).mono ?_
  rintro e w1 ⟨rfl, g⟩
  rw [show kdV (Vl.mk kd b n f tx ty its fls) = 6 from hk]
  have R_a := hide (Row8.below (unhide R_a) g)
  have R_b := hide (Row8.below (unhide R_b) g)
  have V_a := hide (VlC.below g _ _ (unhide V_a))
  have V_b := hide (VlC.below g _ _ (unhide V_b))
  have BW : Below w.heap.size w w1 := BW.trans (g.mono BW.size)
  clear g
  go_wp2_with (refine wpList_load_mid (by rfl) 27 _ (by rfl) (w.heap.size + 1) 0 (by rfl) [.int .i64 kd', .bool b', .int .i64 n', .float .f64 f', .string tx', .string ty', .slice ai' ni' ci', .slice af' nf' cf'] _ (unhide R_b) Try.underlying27 (by rfl) infoV ?_)
  refine (rkind_ok (.mk kd' b' n' f' tx' ty' its' fls') _ _ _ (unhide V_b)).mono ?_
  rintro e w2 ⟨rfl, g⟩
  rw [show kdV (Vl.mk kd' b' n' f' tx' ty' its' fls') = 6 from hk']
  have R_a := hide (Row8.below (unhide R_a) g)
  have R_b := hide (Row8.below (unhide R_b) g)
  have V_a := hide (VlC.below g _ _ (unhide V_a))
  have V_b := hide (VlC.below g _ _ (unhide V_b))
  have BW : Below w.heap.size w w2 := BW.trans (g.mono BW.size)
  clear g
  have HG := hide (show ordV (.mk kd b n f tx ty its fls) (.mk kd' b' n' f' tx' ty' its' fls') = leafV 6 (.mk kd b n f tx ty its fls) (.mk kd' b' n' f' tx' ty' its' fls') by rw [ordV_kd (show kdW (Vl.mk kd b n f tx ty its fls) = kdW (Vl.mk kd' b' n' f' tx' ty' its' fls') from hk.trans hk'.symm), show kdW (Vl.mk kd b n f tx ty its fls) = 6 from hk])
  simp only [leafV, Int.reduceEq, if_true, if_false] at HG
  have x : w2.cell? ⟨w.heap.size, 7, none⟩ = some (.slice af nf cf) := (unhide R_a) 7 _ rfl
  have y : w2.cell? ⟨w.heap.size + 1, 7, none⟩ = some (.slice af' nf' cf') := (unhide R_b) 7 _ rfl
  have l1 := hide (FlsAt.len fls _ _ (unhide HF).1)
  have l2 := hide (FlsAt.len fls' _ _ (unhide HF).2)
  by_cases hn : nf = nf'
  · subst hn
    have BN : nf ≤ 9223372036854775807 := by have h9 := q9; have h10 := q10; unfold maxLen at h9 h10; omega
    go_wp2_with fail
    go_loopw [7] (fun vi wr => ∃ k : Nat, k ≤ nf ∧ vi = .int .i64 k ∧ vl.Hid (Gb w2 wr) ∧ vl.Hid (lexG ordM fls.list fls'.list = lexG ordM (fls.list.drop k) (fls'.list.drop k))) (fun vi _ => nf - (intOf vi).toNat)
    case atStart => exact ⟨0, Nat.zero_le _, rfl, Gb.refl _, rfl⟩
    case round =>
      clear x y
      obtain ⟨k, hk1, rfl, HB, hl⟩ := hrel
      have x : wr.cell? ⟨w.heap.size, 7, none⟩ = some (.slice af nf cf) := (Row8.below (unhide R_a) (unhide HB)) 7 _ rfl
      have y : wr.cell? ⟨w.heap.size + 1, 7, none⟩ = some (.slice af' nf cf') := (Row8.below (unhide R_b) (unhide HB)) 7 _ rfl
      have G2 : Below w.heap.size w wr := BW.trans (Below.mono (unhide HB) BW.size)
      by_cases hlt : k < nf
      · have ki : (k : Int) < (nf : Int) := by omega
        obtain ⟨p, off, nm, v, us, rfl, hg, hn0, hz, hr, hv⟩ := FlsAt.get fls _ _ (FlsAt.below G2 fls _ _ (unhide HF).1) k hlt
        obtain ⟨p', off', nm', u, us', rfl, hg', hn0', hz', hr', hv'⟩ := FlsAt.get fls' _ _ (FlsAt.below G2 fls' _ _ (unhide HF).2) k hlt
        have IH := hide (ih (nm, v) (List.mem_of_getElem? hg) (nm', u) (List.mem_of_getElem? hg'))
        have LT := hide (World.block_lt_of_cell? wr _ hn0)
        have LT' := hide (World.block_lt_of_cell? wr _ hn0')
        have N0 := hide hn0
        have N1 := hide hn0'
        clear hn0 hn0'
        have iu : (Try.prog.info? 27).map (·.size) = some us.length := by rw [hv.cells]; exact infoV
        have iu' : (Try.prog.info? 27).map (·.size) = some us'.length := by rw [hv'.cells]; exact infoV
        have HS := hide (lexG_step (f := ordM) hg hg')
        have U1 := hide (And.intro hr (And.intro hv iu))
        have U2 := hide (And.intro hr' (And.intro hv' iu'))
        clear hg hg' hr hr' hv hv' iu iu'
        go_wp2_with fail
        refine wp_region_noPanic ?_
        have hS0 : Gb wr { wr with drawn := wr.drawn + 1 } ∧ ({ wr with drawn := wr.drawn + 1 } : World).cell? ⟨w.heap.size, 7, none⟩ = some (.slice (some ⟨p, off, none⟩) nf cf) ∧ ({ wr with drawn := wr.drawn + 1 } : World).cell? ⟨w.heap.size + 1, 7, none⟩ = some (.slice (some ⟨p', off', none⟩) nf cf') := ⟨Gb.drew (Gb.refl _), x, y⟩
        have mkS : ∀ w', Gb wr w' → Gb wr w' ∧ w'.cell? ⟨w.heap.size, 7, none⟩ = some (.slice (some ⟨p, off, none⟩) nf cf) ∧ w'.cell? ⟨w.heap.size + 1, 7, none⟩ = some (.slice (some ⟨p', off', none⟩) nf cf') := fun w' h => ⟨h, (Row8.below (Row8.below (unhide R_a) (unhide HB)) h) 7 _ rfl, (Row8.below (Row8.below (unhide R_b) (unhide HB)) h) 7 _ rfl⟩
        have MK := hide mkS
        clear mkS x y
        refine wp_region_held (S := fun w' => Gb wr w' ∧ w'.cell? ⟨w.heap.size, 7, none⟩ = some (.slice (some ⟨p, off, none⟩) nf cf) ∧ w'.cell? ⟨w.heap.size + 1, 7, none⟩ = some (.slice (some ⟨p', off', none⟩) nf cf')) mixed ?_
        refine wpAnyH_take (i := 0) (v := ?v11) rfl (by kernel_rfl) (by kernel_rfl) (by kernel_rfl) (fun _ _ _ h => h) (Or.inl ⟨by rfl, ?hy11⟩) hS0 ?_
        case hy11 => (intro w' hw'; obtain ⟨hb', c7, d7⟩ := hw'; clear hb'; go_simp; try with_reducible rfl)
        simp only [List.getElem_toArray, List.getElem_cons_zero, List.getElem_cons_succ, Act.put, List.setIfInBounds_toArray, List.set_cons_zero, List.set_cons_succ]
        refine wpAnyH_take (i := 1) (v := ?v12) rfl (by kernel_rfl) (by kernel_rfl) (by kernel_rfl) (fun _ _ _ h => h) (Or.inl ⟨by rfl, ?hy12⟩) hS0 ?_
        case hy12 => (intro w' hw'; obtain ⟨hb', c7, d7⟩ := hw'; clear hb'; go_simp; try with_reducible rfl)
        simp only [List.getElem_toArray, List.getElem_cons_zero, List.getElem_cons_succ, Act.put, List.setIfInBounds_toArray, List.set_cons_zero, List.set_cons_succ]
        refine wpAnyH_take (i := 2) (v := ?v13) rfl (by kernel_rfl) (by kernel_rfl) (by kernel_rfl) (fun _ _ _ h => h) (Or.inl ⟨by rfl, ?hy13⟩) hS0 ?_
        case hy13 => (intro w' hw'; obtain ⟨hb', c7, d7⟩ := hw'; clear hb'; go_simp; try with_reducible rfl)
        simp only [List.getElem_toArray, List.getElem_cons_zero, List.getElem_cons_succ, Act.put, List.setIfInBounds_toArray, List.set_cons_zero, List.set_cons_succ]
        refine wpAnyH_take (i := 3) (v := ?v14) rfl (by kernel_rfl) (by kernel_rfl) (by kernel_rfl) (fun _ _ _ h => h) (Or.inl ⟨by rfl, ?hy14⟩) hS0 ?_
        case hy14 => (intro w' hw'; obtain ⟨hb', c7, d7⟩ := hw'; clear hb'; go_simp; try with_reducible rfl)
        simp only [List.getElem_toArray, List.getElem_cons_zero, List.getElem_cons_succ, Act.put, List.setIfInBounds_toArray, List.set_cons_zero, List.set_cons_succ]
        refine wpAnyH_take (i := 4) (v := ?v15) rfl (by kernel_rfl) (by kernel_rfl) (by kernel_rfl) (fun _ _ _ h => h) (Or.inl ⟨by rfl, ?hy15⟩) hS0 ?_
        case hy15 => (intro w' hw'; obtain ⟨hb', c7, d7⟩ := hw'; clear hb'; go_simp; try with_reducible rfl)
        simp only [List.getElem_toArray, List.getElem_cons_zero, List.getElem_cons_succ, Act.put, List.setIfInBounds_toArray, List.set_cons_zero, List.set_cons_succ]
        refine wpAnyH_take (i := 5) (v := ?v16) rfl (by kernel_rfl) (by kernel_rfl) (by kernel_rfl) (fun _ _ _ h => h) (Or.inl ⟨by rfl, ?hy16⟩) hS0 ?_
        case hy16 => (intro w' hw'; have cn := (Below.cell hw'.1 (p := ⟨p, off + k * 9, none⟩) (unhide LT)).trans (unhide N0); obtain ⟨hb', c7, d7⟩ := hw'; clear hb'; go_simp; try with_reducible rfl)
        simp only [List.getElem_toArray, List.getElem_cons_zero, List.getElem_cons_succ, Act.put, List.setIfInBounds_toArray, List.set_cons_zero, List.set_cons_succ]
        refine wpAnyH_take (i := 6) (v := ?v17) rfl (by kernel_rfl) (by kernel_rfl) (by kernel_rfl) (fun _ _ _ h => h) (Or.inl ⟨by rfl, ?hy17⟩) hS0 ?_
        case hy17 => (intro w' hw'; obtain ⟨hb', c7, d7⟩ := hw'; clear hb'; go_simp; try with_reducible rfl)
        simp only [List.getElem_toArray, List.getElem_cons_zero, List.getElem_cons_succ, Act.put, List.setIfInBounds_toArray, List.set_cons_zero, List.set_cons_succ]
        refine wpAnyH_take (i := 7) (v := ?v18) rfl (by kernel_rfl) (by kernel_rfl) (by kernel_rfl) (fun _ _ _ h => h) (Or.inl ⟨by rfl, ?hy18⟩) hS0 ?_
        case hy18 => (intro w' hw'; obtain ⟨hb', c7, d7⟩ := hw'; clear hb'; go_simp; try with_reducible rfl)
        simp only [List.getElem_toArray, List.getElem_cons_zero, List.getElem_cons_succ, Act.put, List.setIfInBounds_toArray, List.set_cons_zero, List.set_cons_succ]
        refine wpAnyH_take (i := 8) (v := ?v19) rfl (by kernel_rfl) (by kernel_rfl) (by kernel_rfl) (fun _ _ _ h => h) (Or.inl ⟨by rfl, ?hy19⟩) hS0 ?_
        case hy19 => (intro w' hw'; obtain ⟨hb', c7, d7⟩ := hw'; clear hb'; go_simp; try with_reducible rfl)
        simp only [List.getElem_toArray, List.getElem_cons_zero, List.getElem_cons_succ, Act.put, List.setIfInBounds_toArray, List.set_cons_zero, List.set_cons_succ]
        refine wpAnyH_take (i := 9) (v := ?v20) rfl (by kernel_rfl) (by kernel_rfl) (by kernel_rfl) (fun _ _ _ h => h) (Or.inl ⟨by rfl, ?hy20⟩) hS0 ?_
        case hy20 => (intro w' hw'; obtain ⟨hb', c7, d7⟩ := hw'; clear hb'; go_simp; try with_reducible rfl)
        simp only [List.getElem_toArray, List.getElem_cons_zero, List.getElem_cons_succ, Act.put, List.setIfInBounds_toArray, List.set_cons_zero, List.set_cons_succ]
        refine wpAnyH_take (i := 10) (v := ?v21) rfl (by kernel_rfl) (by kernel_rfl) (by kernel_rfl) (fun _ _ _ h => h) (Or.inl ⟨by rfl, ?hy21⟩) hS0 ?_
        case hy21 => (intro w' hw'; obtain ⟨hb', c7, d7⟩ := hw'; clear hb'; go_simp; try with_reducible rfl)
        simp only [List.getElem_toArray, List.getElem_cons_zero, List.getElem_cons_succ, Act.put, List.setIfInBounds_toArray, List.set_cons_zero, List.set_cons_succ]
        refine wpAnyH_take (i := 11) (v := ?v22) rfl (by kernel_rfl) (by kernel_rfl) (by kernel_rfl) (fun _ _ _ h => h) (Or.inl ⟨by rfl, ?hy22⟩) hS0 ?_
        case hy22 => (intro w' hw'; have cn := (Below.cell hw'.1 (p := ⟨p', off' + k * 9, none⟩) (unhide LT')).trans (unhide N1); obtain ⟨hb', c7, d7⟩ := hw'; clear hb'; go_simp; try with_reducible rfl)
        simp only [List.getElem_toArray, List.getElem_cons_zero, List.getElem_cons_succ, Act.put, List.setIfInBounds_toArray, List.set_cons_zero, List.set_cons_succ]
        by_cases hm : nm = nm'
        · subst hm
          have hmm : cB nm nm = 0 := cB_self nm
          have HM := hide hmm
          clear hmm
          refine rgn.take (i := 12) _ (.bool false) rfl (by kernel_rfl) (by kernel_rfl) (by kernel_rfl) (fun _ _ _ h => h) (by rfl) hS0 (fun w' hw' => by clear hw'; go_simp) ?_
          simp only [List.getElem_toArray, List.getElem_cons_zero, List.getElem_cons_succ, Act.put, List.setIfInBounds_toArray, List.set_cons_zero, List.set_cons_succ]
          refine wpAnyH_take (i := 13) (v := ?v23) rfl (by kernel_rfl) (by kernel_rfl) (by kernel_rfl) (fun _ _ _ h => h) (Or.inl ⟨by rfl, ?hy23⟩) hS0 ?_
          case hy23 => (intro w' hw'; obtain ⟨hb', c7, d7⟩ := hw'; clear hb'; go_simp; try with_reducible rfl)
          simp only [List.getElem_toArray, List.getElem_cons_zero, List.getElem_cons_succ, Act.put, List.setIfInBounds_toArray, List.set_cons_zero, List.set_cons_succ]
          refine wpAnyH_take (i := 14) (v := ?v24) rfl (by kernel_rfl) (by kernel_rfl) (by kernel_rfl) (fun _ _ _ h => h) (Or.inl ⟨by rfl, ?hy24⟩) hS0 ?_
          case hy24 => (intro w' hw'; obtain ⟨hb', c7, d7⟩ := hw'; clear hb'; go_simp; try with_reducible rfl)
          simp only [List.getElem_toArray, List.getElem_cons_zero, List.getElem_cons_succ, Act.put, List.setIfInBounds_toArray, List.set_cons_zero, List.set_cons_succ]
          refine wpAnyH_take (i := 15) (v := ?v25) rfl (by kernel_rfl) (by kernel_rfl) (by kernel_rfl) (fun _ _ _ h => h) (Or.inl ⟨by rfl, ?hy25⟩) hS0 ?_
          case hy25 => (intro w' hw'; obtain ⟨hb', c7, d7⟩ := hw'; clear hb'; go_simp; try with_reducible rfl)
          simp only [List.getElem_toArray, List.getElem_cons_zero, List.getElem_cons_succ, Act.put, List.setIfInBounds_toArray, List.set_cons_zero, List.set_cons_succ]
          refine wpAnyH_take (i := 16) (v := ?v26) rfl (by kernel_rfl) (by kernel_rfl) (by kernel_rfl) (fun _ _ _ h => h) (Or.inl ⟨by rfl, ?hy26⟩) hS0 ?_
          case hy26 => (intro w' hw'; obtain ⟨hb', c7, d7⟩ := hw'; clear hb'; go_simp; try with_reducible rfl)
          simp only [List.getElem_toArray, List.getElem_cons_zero, List.getElem_cons_succ, Act.put, List.setIfInBounds_toArray, List.set_cons_zero, List.set_cons_succ]
          refine wpAnyH_take (i := 17) (v := ?v27) rfl (by kernel_rfl) (by kernel_rfl) (by kernel_rfl) (fun _ _ _ h => h) (Or.inl ⟨by rfl, ?hy27⟩) hS0 ?_
          case hy27 => (intro w' hw'; obtain ⟨hb', c7, d7⟩ := hw'; clear hb'; go_simp; try with_reducible rfl)
          simp only [List.getElem_toArray, List.getElem_cons_zero, List.getElem_cons_succ, Act.put, List.setIfInBounds_toArray, List.set_cons_zero, List.set_cons_succ]
          refine wpAnyH_take (i := 18) (v := ?v28) rfl (by kernel_rfl) (by kernel_rfl) (by kernel_rfl) (fun _ _ _ h => h) (Or.inl ⟨by rfl, ?hy28⟩) hS0 ?_
          case hy28 => (intro w' hw'; obtain ⟨hb', c7, d7⟩ := hw'; clear hb'; go_simp; try with_reducible rfl)
          simp only [List.getElem_toArray, List.getElem_cons_zero, List.getElem_cons_succ, Act.put, List.setIfInBounds_toArray, List.set_cons_zero, List.set_cons_succ]
          refine wpAnyH_take (i := 19) rfl (by kernel_rfl) (by kernel_rfl) (by kernel_rfl) (fun _ _ _ h => h) (yieldsIf_load_mid (by rfl) 27 _ (by rfl) p (off + k * 9 + 1) (by rfl) us _ (fun w' hw' => Row8.below (unhide U1).1 hw'.1) Try.underlying27 (by rfl) (unhide U1).2.2) hS0 ?_
          simp only [List.getElem_toArray, List.getElem_cons_zero, List.getElem_cons_succ, Act.put, List.setIfInBounds_toArray, List.set_cons_zero, List.set_cons_succ]
          refine wpAnyH_take (i := 20) (v := ?v29) rfl (by kernel_rfl) (by kernel_rfl) (by kernel_rfl) (fun _ _ _ h => h) (Or.inl ⟨by rfl, ?hy29⟩) hS0 ?_
          case hy29 => (intro w' hw'; obtain ⟨hb', c7, d7⟩ := hw'; clear hb'; go_simp; try with_reducible rfl)
          simp only [List.getElem_toArray, List.getElem_cons_zero, List.getElem_cons_succ, Act.put, List.setIfInBounds_toArray, List.set_cons_zero, List.set_cons_succ]
          refine wpAnyH_take (i := 21) (v := ?v30) rfl (by kernel_rfl) (by kernel_rfl) (by kernel_rfl) (fun _ _ _ h => h) (Or.inl ⟨by rfl, ?hy30⟩) hS0 ?_
          case hy30 => (intro w' hw'; obtain ⟨hb', c7, d7⟩ := hw'; clear hb'; go_simp; try with_reducible rfl)
          simp only [List.getElem_toArray, List.getElem_cons_zero, List.getElem_cons_succ, Act.put, List.setIfInBounds_toArray, List.set_cons_zero, List.set_cons_succ]
          refine wpAnyH_take (i := 22) (v := ?v31) rfl (by kernel_rfl) (by kernel_rfl) (by kernel_rfl) (fun _ _ _ h => h) (Or.inl ⟨by rfl, ?hy31⟩) hS0 ?_
          case hy31 => (intro w' hw'; obtain ⟨hb', c7, d7⟩ := hw'; clear hb'; go_simp; try with_reducible rfl)
          simp only [List.getElem_toArray, List.getElem_cons_zero, List.getElem_cons_succ, Act.put, List.setIfInBounds_toArray, List.set_cons_zero, List.set_cons_succ]
          refine wpAnyH_take (i := 23) (v := ?v32) rfl (by kernel_rfl) (by kernel_rfl) (by kernel_rfl) (fun _ _ _ h => h) (Or.inl ⟨by rfl, ?hy32⟩) hS0 ?_
          case hy32 => (intro w' hw'; obtain ⟨hb', c7, d7⟩ := hw'; clear hb'; go_simp; try with_reducible rfl)
          simp only [List.getElem_toArray, List.getElem_cons_zero, List.getElem_cons_succ, Act.put, List.setIfInBounds_toArray, List.set_cons_zero, List.set_cons_succ]
          refine wpAnyH_take (i := 24) (v := ?v33) rfl (by kernel_rfl) (by kernel_rfl) (by kernel_rfl) (fun _ _ _ h => h) (Or.inl ⟨by rfl, ?hy33⟩) hS0 ?_
          case hy33 => (intro w' hw'; obtain ⟨hb', c7, d7⟩ := hw'; clear hb'; go_simp; try with_reducible rfl)
          simp only [List.getElem_toArray, List.getElem_cons_zero, List.getElem_cons_succ, Act.put, List.setIfInBounds_toArray, List.set_cons_zero, List.set_cons_succ]
          refine wpAnyH_take (i := 25) rfl (by kernel_rfl) (by kernel_rfl) (by kernel_rfl) (fun _ _ _ h => h) (yieldsIf_load_mid (by rfl) 27 _ (by rfl) p' (off' + k * 9 + 1) (by rfl) us' _ (fun w' hw' => Row8.below (unhide U2).1 hw'.1) Try.underlying27 (by rfl) (unhide U2).2.2) hS0 ?_
          simp only [List.getElem_toArray, List.getElem_cons_zero, List.getElem_cons_succ, Act.put, List.setIfInBounds_toArray, List.set_cons_zero, List.set_cons_succ]
          refine rgn.one (i := 26) _ rfl (by kernel_rfl) (by rfl) ?_
          simp only [List.getElem_toArray, List.getElem_cons_zero, List.getElem_cons_succ, Act.put, List.setIfInBounds_toArray, List.set_cons_zero, List.set_cons_succ]
          go_wp2_with fail
          refine ((unhide IH) us us' _ (VlC.below hS0.1 _ _ (unhide U1).2.1) (VlC.below hS0.1 _ _ (unhide U2).2.1)).mono ?_
          rintro e w3 ⟨rfl, g3⟩
          have hS0 := (unhide MK) w3 (hS0.1.trans (g3.mono hS0.1.size))
          refine ⟨hS0, ?_⟩
          obtain ⟨hb, -, -⟩ := hS0
          have hS0 := (unhide MK) w3 hb
          by_cases hc : ordV v u = 0
          · have hc2 := hide (show ordM (nm, v) (nm, u) = 0 by rw [ordM, unhide HM, if_pos rfl]; exact hc)
            rw [show (ordV (nm, v).2 (nm, u).2 == 0) = true by show (ordV v u == 0) = true; rw [hc]; rfl]
            clear hc
            refine wpAnyH_take (i := 27) (v := ?v34) rfl (by kernel_rfl) (by kernel_rfl) (by kernel_rfl) (fun _ _ _ h => h) (Or.inl ⟨by rfl, ?hy34⟩) hS0 ?_
            case hy34 => (intro w' hw'; clear hw'; go_simp; try with_reducible rfl)
            simp only [List.getElem_toArray, List.getElem_cons_zero, List.getElem_cons_succ, Act.put, List.setIfInBounds_toArray, List.set_cons_zero, List.set_cons_succ]
            refine wpAnyH_take (i := 28) (v := ?v35) rfl (by kernel_rfl) (by kernel_rfl) (by kernel_rfl) (fun _ _ _ h => h) (Or.inl ⟨by rfl, ?hy35⟩) hS0 ?_
            case hy35 => (intro w' hw'; clear hw'; go_simp; try with_reducible rfl)
            simp only [List.getElem_toArray, List.getElem_cons_zero, List.getElem_cons_succ, Act.put, List.setIfInBounds_toArray, List.set_cons_zero, List.set_cons_succ]
            refine wpAnyH_done (by kernel_rfl) ?_ _; refine NoPanic.normal ?_
            clear hS0
            go_wp2
            go_roundw
            case rel => exact ⟨k + 1, by omega, by go_num, (unhide HB).trans (Below.mono hb (unhide HB).size), (unhide hl).trans ((unhide HS).trans (if_pos (unhide hc2)))⟩
            case measure => simp [intOf]; omega
          · have hc2 := hide (show ordM (nm, v) (nm, u) ≠ 0 by rw [ordM, unhide HM, if_pos rfl]; exact hc)
            rw [show (ordV (nm, v).2 (nm, u).2 == 0) = false by show (ordV v u == 0) = false; simpa using hc]
            clear hc
            refine wpAnyH_take (i := 27) (v := ?v36) rfl (by kernel_rfl) (by kernel_rfl) (by kernel_rfl) (fun _ _ _ h => h) (Or.inl ⟨by rfl, ?hy36⟩) hS0 ?_
            case hy36 => (intro w' hw'; clear hw'; go_simp; try with_reducible rfl)
            simp only [List.getElem_toArray, List.getElem_cons_zero, List.getElem_cons_succ, Act.put, List.setIfInBounds_toArray, List.set_cons_zero, List.set_cons_succ]
            refine wpAnyH_take (i := 28) (v := ?v37) rfl (by kernel_rfl) (by kernel_rfl) (by kernel_rfl) (fun _ _ _ h => h) (Or.inl ⟨by rfl, ?hy37⟩) hS0 ?_
            case hy37 => (intro w' hw'; clear hw'; go_simp; try with_reducible rfl)
            simp only [List.getElem_toArray, List.getElem_cons_zero, List.getElem_cons_succ, Act.put, List.setIfInBounds_toArray, List.set_cons_zero, List.set_cons_succ]
            refine wpAnyH_done (by kernel_rfl) ?_ _; refine NoPanic.normal ?_
            have G3 := G2.trans (Below.mono hb G2.size)
            clear hS0
            go_wp2
            go_ret
            exact ⟨by rw [unhide HG, unhide hl, unhide HS, if_neg (unhide hc2)]; simpa using (unhide hc2), G3⟩
        · have hcb : cB nm nm' ≠ 0 := fun e => hm (by rcases cB_tri nm nm' with ⟨h, -, k⟩ | ⟨h, -, k⟩ | ⟨h, -, k⟩ <;> first | exact k | (rw [h] at e; cases e))
          have hc2 := hide (show ordM (nm, v) (nm', u) ≠ 0 by rw [ordM, if_neg hcb]; exact hcb)
          clear hcb
          have hmn : ¬ nm.toList = nm'.toList := by simpa using str_bne hm
          refine rgn.take (i := 12) _ (.bool true) rfl (by kernel_rfl) (by kernel_rfl) (by kernel_rfl) (fun _ _ _ h => h) (by rfl) hS0 (fun w' hw' => by clear hw'; go_simp) ?_
          simp only [List.getElem_toArray, List.getElem_cons_zero, List.getElem_cons_succ, Act.put, List.setIfInBounds_toArray, List.set_cons_zero, List.set_cons_succ]
          refine wpAnyH_take (i := 13) (v := ?v38) rfl (by kernel_rfl) (by kernel_rfl) (by kernel_rfl) (fun _ _ _ h => h) (Or.inl ⟨by rfl, ?hy38⟩) hS0 ?_
          case hy38 => (intro w' hw'; clear hw'; go_simp; try with_reducible rfl)
          simp only [List.getElem_toArray, List.getElem_cons_zero, List.getElem_cons_succ, Act.put, List.setIfInBounds_toArray, List.set_cons_zero, List.set_cons_succ]
          refine wpAnyH_take (i := 14) (v := undef) rfl (by kernel_rfl) (by kernel_rfl) (by kernel_rfl) (fun _ _ _ h => h) (Or.inr ⟨by rfl, rfl⟩) hS0 ?_
          simp only [List.getElem_toArray, List.getElem_cons_zero, List.getElem_cons_succ, Act.put, List.setIfInBounds_toArray, List.set_cons_zero, List.set_cons_succ]
          refine wpAnyH_take (i := 15) (v := undef) rfl (by kernel_rfl) (by kernel_rfl) (by kernel_rfl) (fun _ _ _ h => h) (Or.inr ⟨by rfl, rfl⟩) hS0 ?_
          simp only [List.getElem_toArray, List.getElem_cons_zero, List.getElem_cons_succ, Act.put, List.setIfInBounds_toArray, List.set_cons_zero, List.set_cons_succ]
          refine wpAnyH_take (i := 16) (v := undef) rfl (by kernel_rfl) (by kernel_rfl) (by kernel_rfl) (fun _ _ _ h => h) (Or.inr ⟨by rfl, rfl⟩) hS0 ?_
          simp only [List.getElem_toArray, List.getElem_cons_zero, List.getElem_cons_succ, Act.put, List.setIfInBounds_toArray, List.set_cons_zero, List.set_cons_succ]
          refine wpAnyH_take (i := 17) (v := undef) rfl (by kernel_rfl) (by kernel_rfl) (by kernel_rfl) (fun _ _ _ h => h) (Or.inr ⟨by rfl, rfl⟩) hS0 ?_
          simp only [List.getElem_toArray, List.getElem_cons_zero, List.getElem_cons_succ, Act.put, List.setIfInBounds_toArray, List.set_cons_zero, List.set_cons_succ]
          refine wpAnyH_take (i := 18) (v := undef) rfl (by kernel_rfl) (by kernel_rfl) (by kernel_rfl) (fun _ _ _ h => h) (Or.inr ⟨by rfl, rfl⟩) hS0 ?_
          simp only [List.getElem_toArray, List.getElem_cons_zero, List.getElem_cons_succ, Act.put, List.setIfInBounds_toArray, List.set_cons_zero, List.set_cons_succ]
          refine wpAnyH_take (i := 19) (v := undef) rfl (by kernel_rfl) (by kernel_rfl) (by kernel_rfl) (fun _ _ _ h => h) (Or.inr ⟨by rfl, rfl⟩) hS0 ?_
          simp only [List.getElem_toArray, List.getElem_cons_zero, List.getElem_cons_succ, Act.put, List.setIfInBounds_toArray, List.set_cons_zero, List.set_cons_succ]
          refine wpAnyH_take (i := 20) (v := undef) rfl (by kernel_rfl) (by kernel_rfl) (by kernel_rfl) (fun _ _ _ h => h) (Or.inr ⟨by rfl, rfl⟩) hS0 ?_
          simp only [List.getElem_toArray, List.getElem_cons_zero, List.getElem_cons_succ, Act.put, List.setIfInBounds_toArray, List.set_cons_zero, List.set_cons_succ]
          refine wpAnyH_take (i := 21) (v := undef) rfl (by kernel_rfl) (by kernel_rfl) (by kernel_rfl) (fun _ _ _ h => h) (Or.inr ⟨by rfl, rfl⟩) hS0 ?_
          simp only [List.getElem_toArray, List.getElem_cons_zero, List.getElem_cons_succ, Act.put, List.setIfInBounds_toArray, List.set_cons_zero, List.set_cons_succ]
          refine wpAnyH_take (i := 22) (v := undef) rfl (by kernel_rfl) (by kernel_rfl) (by kernel_rfl) (fun _ _ _ h => h) (Or.inr ⟨by rfl, rfl⟩) hS0 ?_
          simp only [List.getElem_toArray, List.getElem_cons_zero, List.getElem_cons_succ, Act.put, List.setIfInBounds_toArray, List.set_cons_zero, List.set_cons_succ]
          refine wpAnyH_take (i := 23) (v := undef) rfl (by kernel_rfl) (by kernel_rfl) (by kernel_rfl) (fun _ _ _ h => h) (Or.inr ⟨by rfl, rfl⟩) hS0 ?_
          simp only [List.getElem_toArray, List.getElem_cons_zero, List.getElem_cons_succ, Act.put, List.setIfInBounds_toArray, List.set_cons_zero, List.set_cons_succ]
          refine wpAnyH_take (i := 24) (v := undef) rfl (by kernel_rfl) (by kernel_rfl) (by kernel_rfl) (fun _ _ _ h => h) (Or.inr ⟨by rfl, rfl⟩) hS0 ?_
          simp only [List.getElem_toArray, List.getElem_cons_zero, List.getElem_cons_succ, Act.put, List.setIfInBounds_toArray, List.set_cons_zero, List.set_cons_succ]
          refine wpAnyH_take (i := 25) (v := undef) rfl (by kernel_rfl) (by kernel_rfl) (by kernel_rfl) (fun _ _ _ h => h) (Or.inr ⟨by rfl, rfl⟩) hS0 ?_
          simp only [List.getElem_toArray, List.getElem_cons_zero, List.getElem_cons_succ, Act.put, List.setIfInBounds_toArray, List.set_cons_zero, List.set_cons_succ]
          refine wpAnyH_take (i := 26) (v := undef) rfl (by kernel_rfl) (by kernel_rfl) (by kernel_rfl) (fun _ _ _ h => h) (Or.inr ⟨by rfl, rfl⟩) hS0 ?_
          simp only [List.getElem_toArray, List.getElem_cons_zero, List.getElem_cons_succ, Act.put, List.setIfInBounds_toArray, List.set_cons_zero, List.set_cons_succ]
          refine wpAnyH_take (i := 27) (v := undef) rfl (by kernel_rfl) (by kernel_rfl) (by kernel_rfl) (fun _ _ _ h => h) (Or.inr ⟨by rfl, rfl⟩) hS0 ?_
          simp only [List.getElem_toArray, List.getElem_cons_zero, List.getElem_cons_succ, Act.put, List.setIfInBounds_toArray, List.set_cons_zero, List.set_cons_succ]
          refine wpAnyH_take (i := 28) (v := ?v39) rfl (by kernel_rfl) (by kernel_rfl) (by kernel_rfl) (fun _ _ _ h => h) (Or.inl ⟨by rfl, ?hy39⟩) hS0 ?_
          case hy39 => (intro w' hw'; obtain ⟨hb', c7, d7⟩ := hw'; clear hb'; go_simp; try with_reducible rfl)
          simp only [List.getElem_toArray, List.getElem_cons_zero, List.getElem_cons_succ, Act.put, List.setIfInBounds_toArray, List.set_cons_zero, List.set_cons_succ]
          refine wpAnyH_done (by kernel_rfl) ?_ _; refine NoPanic.normal ?_
          have G3 := G2.trans (Below.mono hS0.1 G2.size)
          clear hS0
          go_wp2
          go_ret
          exact ⟨by rw [unhide HG, unhide hl, unhide HS, if_neg (unhide hc2)]; simpa using (unhide hc2), G3⟩
      · obtain rfl : k = nf := by omega
        go_wp2
        go_ret
        exact ⟨by rw [unhide HG, unhide hl, lexG_end0 (by rw [unhide l1]; omega) (by rw [unhide l2]; omega)]; rfl, G2⟩
  · have HN := hide (show lexG ordM fls.list fls'.list ≠ 0 from fun e => hn (by have := P2.length (p2_lexG e); rw [unhide l1, unhide l2] at this; exact this))
    have hn2 : (nf : Int) ≠ nf' := by omega
    go_wp2
    go_ret
    exact ⟨by rw [unhide HG]; simpa using (unhide HN), BW⟩
theorem req_ok : ∀ v : Vl, Small v → ∀ u : Vl, Small u → REq v u := by
  refine Vl.all ?_
  intro kd b n f tx ty its fls hI hF hv u hu
  obtain ⟨kd', b', n', f', tx', ty', its', fls'⟩ := u
  unfold Small at hv hu
  obtain ⟨-, -, hf, sI, sF⟩ := hv
  obtain ⟨-, -, hf', sI', sF'⟩ := hu
  by_cases hk : kdOf kd = kdOf kd'
  · rcases kdOf_rng kd with h | h | h | h | h | h | h | h
    · exact req_0 _ _ _ _ _ _ _ _ _ _ _ _ _ _ _ _ h (hk.symm.trans h)
    · exact req_1 _ _ _ _ _ _ _ _ _ _ _ _ _ _ _ _ h (hk.symm.trans h)
    · exact req_2 _ _ _ _ _ _ _ _ _ _ _ _ _ _ _ _ h (hk.symm.trans h)
    · exact req_3 _ _ _ _ _ _ _ _ _ _ _ _ _ _ _ _ h (hk.symm.trans h) hf hf'
    · exact req_4 _ _ _ _ _ _ _ _ _ _ _ _ _ _ _ _ h (hk.symm.trans h)
    · exact req_5 _ _ _ _ _ _ _ _ _ _ _ _ _ _ _ _ h (hk.symm.trans h) (fun v hv u hu => hI v hv (sI.all _ hv) u (sI'.all _ hu))
    · exact req_6 _ _ _ _ _ _ _ _ _ _ _ _ _ _ _ _ h (hk.symm.trans h) (fun v hv u hu => hF v hv (sF.all _ hv) u.2 (sF'.all _ hu))
    · exact req_7 _ _ _ _ _ _ _ _ _ _ _ _ _ _ _ _ h (hk.symm.trans h)
  · exact req_ne _ _ _ _ _ _ _ _ _ _ _ _ _ _ _ _ _ _ rfl rfl hk
end Go.Proofs.Ytiblkdedbimggaa.og
namespace Go.Proofs.Ytiblkdedbimggaa.og
open Go.ChangeShapes Go.WideShapes Go.ChangeAt Go.RowKit
open vl hiding cB cFl cS cF cI cK cIt
open stp (c3 c3_lt c3_gt c3_eq cB cB_tri)
set_option linter.unusedVariables false
set_option linter.unusedSimpArgs false
theorem leaf_ordV {kd kd' : Int} {b b' : Bool} {n n' : Int} {f f' : Nat} {tx tx' ty ty' : ByteArray} {its its' : Vls} {fls fls' : Fls} (hk : kdOf kd = kdOf kd') : leafV (kdOf kd) (.mk kd b n f tx ty its fls) (.mk kd' b' n' f' tx' ty' its' fls') = ordV (.mk kd b n f tx ty its fls) (.mk kd' b' n' f' tx' ty' its' fls') := (ordV_kd (show kdW (Vl.mk kd b n f tx ty its fls) = kdW (Vl.mk kd' b' n' f' tx' ty' its' fls') from hk)).symm
theorem Pm.symm : ∀ v : Vl, Small v → ∀ u : Vl, Small u → Pm v u → Pm u v := by
  refine Vl.all ?_
  intro kd b n f tx ty its fls hI hF hv u hu h
  obtain ⟨kd', b', n', f', tx', ty', its', fls'⟩ := u
  have hv0 := hv
  have hu0 := hu
  unfold Small at hv hu
  obtain ⟨-, -, -, sI, sF⟩ := hv
  obtain ⟨-, -, -, sI', sF'⟩ := hu
  unfold Pm at h ⊢
  obtain ⟨hk, h⟩ := h
  refine ⟨hk.symm, ?_⟩
  by_cases h5 : kdOf kd = 5
  · rw [if_pos h5] at h
    rw [if_pos (hk.symm.trans h5)]
    exact PmI.of ((h.p2.symm).imp (fun a ha c hc x => hI c hc (sI.all _ hc) a (sI'.all _ ha) x))
  · rw [if_neg h5] at h
    rw [if_neg (fun e => h5 (hk.trans e))]
    by_cases h6 : kdOf kd = 6
    · rw [if_pos h6] at h
      rw [if_pos (hk.symm.trans h6)]
      obtain ⟨m, hp, hm⟩ := h
      obtain ⟨m', hp', hm'⟩ := P2.perm hp.symm hm.p2.symm
      exact ⟨m', hp', PmF.of (hm'.imp (fun a ha c hc x => ⟨x.1.symm, hF c (hp'.mem_iff.2 hc) (sF.all _ (hp'.mem_iff.2 hc)) a.2 (sF'.all _ ha) x.2⟩))⟩
    · rw [if_neg h6] at h
      rw [if_neg (fun e => h6 (hk.trans e))]
      rw [leaf_ordV hk] at h
      rw [leaf_ordV hk.symm]
      exact ordV_zero_symm hv0 hu0 h
theorem Pm.trans : ∀ v : Vl, Small v → ∀ u : Vl, Small u → ∀ z : Vl, Small z → Pm v u → Pm u z → Pm v z := by
  refine Vl.all ?_
  intro kd b n f tx ty its fls hI hF hv u hu z hz h k
  obtain ⟨kd', b', n', f', tx', ty', its', fls'⟩ := u
  obtain ⟨kd2, b2, n2, f2, tx2, ty2, its2, fls2⟩ := z
  have hv0 := hv
  have hu0 := hu
  have hz0 := hz
  unfold Small at hv hu hz
  obtain ⟨-, -, -, sI, sF⟩ := hv
  obtain ⟨-, -, -, sI', sF'⟩ := hu
  obtain ⟨-, -, -, sI2, sF2⟩ := hz
  unfold Pm at h k ⊢
  obtain ⟨hk, h⟩ := h
  obtain ⟨hk', k⟩ := k
  refine ⟨hk.trans hk', ?_⟩
  by_cases h5 : kdOf kd = 5
  · rw [if_pos h5] at h
    rw [if_pos (hk.symm.trans h5)] at k
    rw [if_pos h5]
    exact PmI.of (P2.trans h.p2 k.p2 (fun a ha c hc d hd x y => hI a ha (sI.all _ ha) c (sI'.all _ hc) d (sI2.all _ hd) x y))
  · rw [if_neg h5] at h
    rw [if_neg (fun e => h5 (hk.trans e))] at k
    rw [if_neg h5]
    by_cases h6 : kdOf kd = 6
    · rw [if_pos h6] at h
      rw [if_pos (hk.symm.trans h6)] at k
      rw [if_pos h6]
      obtain ⟨m, hp, hm⟩ := h
      obtain ⟨m2, hp2, hm2⟩ := k
      obtain ⟨m3, hp3, hm3⟩ := P2.perm hp hm2.p2
      refine ⟨m3, hp2.trans hp3, PmF.of (P2.trans hm.p2 hm3 (fun a ha c hc d hd x y => ⟨y.1.trans x.1, hF a ha (sF.all _ ha) c.2 (sF'.all _ (hp.mem_iff.2 hc)) d.2 (sF2.all _ ((hp2.trans hp3).mem_iff.2 hd)) x.2 y.2⟩))⟩
    · rw [if_neg h6] at h
      rw [if_neg (fun e => h6 (hk.trans e))] at k
      rw [if_neg h6]
      rw [leaf_ordV hk] at h
      rw [leaf_ordV hk'] at k
      rw [leaf_ordV (hk.trans hk')]
      exact ordV_zero_trans hv0 hu0 hz0 h k
open Classical in
/-- the same but for the members' order, as an answer -/
noncomputable def pmB (v u : Vl) : Bool := decide (Pm v u)
theorem pmB_iff {v u : Vl} : pmB v u = true ↔ Pm v u := by unfold pmB; exact @decide_eq_true_iff _ (_)
theorem pmB_eq {v u : Vl} {c : Bool} (h : Pm v u ↔ c = true) : pmB v u = c := by
  cases c
  · cases hp : pmB v u
    · rfl
    · exact absurd (h.1 (pmB_iff.1 hp)) (by simp)
  · exact pmB_iff.2 (h.2 rfl)
theorem pmB_ne {v u : Vl} (h : kdW v ≠ kdW u) : pmB v u = false := by
  refine pmB_eq ⟨fun k => ?_, fun k => by cases k⟩
  obtain ⟨kd, b, n, f, tx, ty, its, fls⟩ := v
  obtain ⟨kd', b', n', f', tx', ty', its', fls'⟩ := u
  unfold Pm at k
  exact absurd k.1 h
theorem pmB_leaf {kd kd' : Int} {b b' : Bool} {n n' : Int} {f f' : Nat} {tx tx' ty ty' : ByteArray} {its its' : Vls} {fls fls' : Fls} (hk : kdOf kd = kdOf kd') (h5 : kdOf kd ≠ 5) (h6 : kdOf kd ≠ 6) : pmB (.mk kd b n f tx ty its fls) (.mk kd' b' n' f' tx' ty' its' fls') = (ordV (.mk kd b n f tx ty its fls) (.mk kd' b' n' f' tx' ty' its' fls') == 0) := by
  refine pmB_eq ?_
  unfold Pm
  rw [if_neg h5, if_neg h6, leaf_ordV hk, beq_iff_eq]
  exact ⟨fun h => h.2, fun h => ⟨hk, h⟩⟩
/-- all, one by one -/
def al2 {α : Type} (M : α → α → Bool) : List α → List α → Bool
  | [], [] => true
  | a :: l, b :: r => M a b && al2 M l r
  | _, _ => false
theorem al2_p2 {α : Type} (M : α → α → Bool) : ∀ (l r : List α), al2 M l r = true ↔ P2 (fun a b => M a b = true) l r
  | [], [] => ⟨fun _ => trivial, fun _ => rfl⟩
  | a :: l, b :: r => by
    rw [al2, Bool.and_eq_true, al2_p2 M l r]
    exact Iff.rfl
  | [], _ :: _ => ⟨fun h => by simp [al2] at h, fun h => h.elim⟩
  | _ :: _, [] => ⟨fun h => by simp [al2] at h, fun h => h.elim⟩
theorem al2_step {α : Type} {M : α → α → Bool} : ∀ {k : Nat} {l r : List α} {a b : α}, l[k]? = some a → r[k]? = some b → al2 M (l.drop k) (r.drop k) = (M a b && al2 M (l.drop (k + 1)) (r.drop (k + 1))) := by
  intro k l r a b h1 h2
  obtain ⟨k1, e1⟩ := List.getElem?_eq_some_iff.1 h1
  obtain ⟨k2, e2⟩ := List.getElem?_eq_some_iff.1 h2
  rw [List.drop_eq_getElem_cons k1, List.drop_eq_getElem_cons k2, e1, e2, al2]
theorem al2_end {α : Type} {M : α → α → Bool} {k : Nat} {l r : List α} (h1 : l.length ≤ k) (h2 : r.length ≤ k) : al2 M (l.drop k) (r.drop k) = true := by
  rw [List.drop_eq_nil_of_le h1, List.drop_eq_nil_of_le h2, al2]
theorem grd_step {α : Type} {M : α → α → Bool} {k : Nat} {l r : List α} {a : α} (h : l[k]? = some a) : grd M (l.drop k) r = match rmF M a r with | none => false | some r' => grd M (l.drop (k + 1)) r' := by
  obtain ⟨k1, e1⟩ := List.getElem?_eq_some_iff.1 h
  rw [List.drop_eq_getElem_cons k1, e1, grd]
  all_goals cases rmF M a r <;> rfl
theorem grd_end {α : Type} {M : α → α → Bool} {k : Nat} {l r : List α} (h : l.length ≤ k) : grd M (l.drop k) r = true := by
  rw [List.drop_eq_nil_of_le h, grd]
theorem pmB_five {b b' : Bool} {n n' : Int} {f f' : Nat} {tx tx' ty ty' : ByteArray} {its its' : Vls} {fls fls' : Fls} {kd kd' : Int} (h5 : kdOf kd = 5) (h5' : kdOf kd' = 5) : pmB (.mk kd b n f tx ty its fls) (.mk kd' b' n' f' tx' ty' its' fls') = al2 pmB its.list its'.list := by
  refine pmB_eq ?_
  unfold Pm
  rw [if_pos h5, al2_p2]
  constructor
  · exact fun h => h.2.p2.imp (fun a _ c _ x => pmB_iff.2 x)
  · exact fun h => ⟨h5.trans h5'.symm, PmI.of (h.imp (fun a _ c _ x => pmB_iff.1 x))⟩
/-- two members -/
noncomputable def mmB (p q : ByteArray × Vl) : Bool := decide (p.1 = q.1) && pmB p.2 q.2
theorem mmB_iff {p q : ByteArray × Vl} : mmB p q = true ↔ q.1 = p.1 ∧ Pm p.2 q.2 := by
  unfold mmB
  rw [Bool.and_eq_true, decide_eq_true_iff, pmB_iff]
  exact ⟨fun h => ⟨h.1.symm, h.2⟩, fun h => ⟨h.1.symm, h.2⟩⟩
theorem pmB_six {b b' : Bool} {n n' : Int} {f f' : Nat} {tx tx' ty ty' : ByteArray} {its its' : Vls} {fls fls' : Fls} {kd kd' : Int} (h6 : kdOf kd = 6) (h6' : kdOf kd' = 6) (hs : SmallF fls) (hs' : SmallF fls') (hl : fls.list.length = fls'.list.length) : pmB (.mk kd b n f tx ty its fls) (.mk kd' b' n' f' tx' ty' its' fls') = grd mmB fls.list fls'.list := by
  refine pmB_eq ?_
  unfold Pm
  rw [if_neg (by rw [h6]; decide), if_pos h6]
  constructor
  · rintro ⟨-, m, hp, hm⟩
    refine grd_to mmB (fun p => Small p.2) (fun p => Small p.2) ?_ fls.list fls'.list m (fun x hx => hs.all _ hx) (fun x hx => hs'.all _ hx) hp (hm.p2.imp (fun a _ c _ x => mmB_iff.2 x))
    intro p p' q q' a1 a2 a3 a4 k1 k2 k3
    rw [mmB_iff] at k1 k2 k3 ⊢
    exact ⟨by rw [k2.1, ← k1.1, k3.1], Pm.trans _ a2 _ a3 _ a4 k3.2 (Pm.trans _ a3 _ a1 _ a4 (Pm.symm _ a1 _ a3 k1.2) k2.2)⟩
  · intro h
    obtain ⟨m, hp, hm⟩ := grd_of mmB _ _ hl h
    exact ⟨h6.trans h6'.symm, m, hp, PmF.of (hm.imp (fun a _ c _ x => mmB_iff.1 x))⟩
theorem pmB_len {b b' : Bool} {n n' : Int} {f f' : Nat} {tx tx' ty ty' : ByteArray} {its its' : Vls} {fls fls' : Fls} {kd kd' : Int} (h6 : kdOf kd = 6) (hl : fls.list.length ≠ fls'.list.length) : pmB (.mk kd b n f tx ty its fls) (.mk kd' b' n' f' tx' ty' its' fls') = false := by
  refine pmB_eq ⟨fun h => ?_, fun h => by cases h⟩
  unfold Pm at h
  rw [if_neg (by rw [h6]; decide), if_pos h6] at h
  obtain ⟨-, m, hp, hm⟩ := h
  exact absurd (hm.p2.length.trans hp.length_eq.symm) hl
theorem pmB_len5 {b b' : Bool} {n n' : Int} {f f' : Nat} {tx tx' ty ty' : ByteArray} {its its' : Vls} {fls fls' : Fls} {kd kd' : Int} (h5 : kdOf kd = 5) (hl : its.list.length ≠ its'.list.length) : pmB (.mk kd b n f tx ty its fls) (.mk kd' b' n' f' tx' ty' its' fls') = false := by
  refine pmB_eq ⟨fun h => ?_, fun h => by cases h⟩
  unfold Pm at h
  rw [if_pos h5] at h
  exact absurd h.2.p2.length hl
/-- tree.Same's answer is the same -/
theorem smB_pmB {v u : Vl} (hv : Small v) (hu : Small u) (h1 : ∃ v', Srt v v') (h2 : ∃ u', Srt u u') : smB v u = pmB v u := by
  obtain ⟨v', h1⟩ := h1
  obtain ⟨u', h2⟩ := h2
  rw [smB_of hv hu h1 h2]
  refine (pmB_eq ?_).symm
  rw [beq_iff_eq]
  exact ⟨fun h => pm_srt v hv u hu h v' u' h1 h2, fun h => srt_pm v hv u hu v' u' h1 h2 h⟩
theorem pmB_self (v : Vl) : pmB v v = true := pmB_iff.2 (Pm.refl v)
end Go.Proofs.Ytiblkdedbimggaa.og
