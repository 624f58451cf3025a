import Derived.Test.YtiblkdedbimggaaTst5
import Derived.Test.YtiblkdedbimggaaTst4
import Derived.RangeFuncNested
import Derived.RangeFuncBound
import Derived.RangeFuncCalls
import Derived.RangeFuncLeaves
import Derived.Shelf.Abstract
import Derived.Shelf.RegionOpen
import Derived.OwnWalkIn
import Derived.TacticsInMore
import Derived.LoopNIn
import Derived.LoopIn
import Derived.Lib.MinMax
import Derived.Test.YtiblkdedbimggaaTst7
namespace Go.Proofs.Ytiblkdedbimggaa.og
open Go.ChangeShapes Go.WideShapes Go.ChangeAt Go.RowKit Go.Shelf
open vl hiding cB cFl cS cF cI cK cIt
open stp (c3 c3_lt c3_gt c3_eq cB cB_tri St)
attribute [local go_sem] Oper.semAt_some
set_option linter.unusedVariables false
set_option linter.unusedSimpArgs false
/-- a value's children, each with the step to it -/
def kids : Vl → List (St × Vl)
  | .mk kd _ _ _ _ _ its fls => if kd = 5 then its.list.zipIdx.map (fun p => (⟨⟨#[]⟩, (p.2 : Int), true⟩, p.1)) else if kd = 6 then fls.list.map (fun q => (⟨q.1, 0, false⟩, q.2)) else []
/-- a child as it is handed to yield: it can be read in w0 -/
def Kid (w0 : World) (ks : List (St × Vl)) : Type := { x : St × Vl × List Value // VlC w0 x.2.1 x.2.2 ∧ (x.1, x.2.1) ∈ ks }
def Kid.sv {w0 : World} {ks : List (St × Vl)} (x : Kid w0 ks) : St × Vl := (x.1.1, x.1.2.1)
def Kid.enc {w0 : World} {ks : List (St × Vl)} (x : Kid w0 ks) : Array Value := #[.agg #[.string x.1.1.nm, .int .i64 x.1.1.ix, .bool x.1.1.it], .agg x.1.2.2.toArray]
theorem take_map_snoc {w0 : World} {ks l : List (St × Vl)} {pre : List (Kid w0 ks)} {k : Nat} {x : Kid w0 ks} (h : pre.map Kid.sv = l.take k) (hx : l[k]? = some x.sv) : (pre ++ [x]).map Kid.sv = l.take (k + 1) := by
  rw [List.map_append, h, List.take_add_one, hx]
  rfl
theorem pre_len {w0 : World} {ks l : List (St × Vl)} {pre : List (Kid w0 ks)} {k : Nat} (h : pre.map Kid.sv = l.take k) (hk : k < l.length) : pre.length < l.length := by
  have := congrArg List.length h
  simp at this
  omega
theorem kids_list (b : Bool) (n : Int) (f : Nat) (tx ty : ByteArray) (its : Vls) (fls : Fls) : kids (.mk 5 b n f tx ty its fls) = its.list.zipIdx.map (fun p => (⟨⟨#[]⟩, (p.2 : Int), true⟩, p.1)) := by simp [kids]
theorem kids_obj (b : Bool) (n : Int) (f : Nat) (tx ty : ByteArray) (its : Vls) (fls : Fls) : kids (.mk 6 b n f tx ty its fls) = fls.list.map (fun q => (⟨q.1, 0, false⟩, q.2)) := by simp [kids]
theorem kids_none {kd : Int} (h5 : kd ≠ 5) (h6 : kd ≠ 6) (b : Bool) (n : Int) (f : Nat) (tx ty : ByteArray) (its : Vls) (fls : Fls) : kids (.mk kd b n f tx ty its fls) = [] := by simp [kids, h5, h6]
theorem keepC' {w w' : World} {b o : Nat} {u : Value} (h : Below w.heap.size w w') (hc : w.cell? ⟨b, o, none⟩ = some u) : w'.cell? ⟨b, o, none⟩ = some u := keepC h (World.block_lt_of_cell? w _ hc) hc
theorem children_in (F : Fence) (n : Nat) (hF : F.fn 31) (hro : F.round = none) (cs : List Value) (w : World) :
    CallsIn F n Try.prog 31 #[.agg cs.toArray] w fun e w' => e = .returned (.func (.func 56) #[] #[.pointer (some ⟨w.heap.size, 0, none⟩)]) ∧ w' = w.alloc (.cells cs.toArray 27) := by
  refine callsIn_of_wp Try.func31 rfl hF ?_ hro
  simp only [Try.ntmps31, List.size_toArray, List.length_cons, List.length_nil, Nat.reduceAdd, Nat.reduceSub, Array.replicate_succ, Array.replicate_zero, List.push_toArray, List.append_toArray, List.nil_append, List.cons_append]
  gi_wp2
  go_ret
  exact ⟨rfl, rfl⟩
set_option maxRecDepth 100000 in
set_option maxHeartbeats 4000000 in
theorem kids1_in (F : Fence) (n : Nat) (hF : F.fn 56) (hro : F.round = none) (hn : 1 ≤ n) (l Bv : Nat) (w0 : World) (v : Vl) (cs : List Value) (hv : VlC w0 v cs) (hsm : Small v) (ks : List (St × Vl)) (hks : kids v = ks) (J Jx : List (Kid w0 ks) → World → Prop)
    (B : Nat) (hJ : AbidesFrom B J) (hY : ∀ pre x W, J pre W → pre.length < ks.length → YieldAt F (n - 1) Try.prog l (Kid.enc x) W fun e W' =>
      (e = .returned (.bool true) ∧ J (pre ++ [x]) W' ∧ Below w0.heap.size W W') ∨ (e = .returned (.bool false) ∧ Jx (pre ++ [x]) W'))
    (W : World) (h0W : Below w0.heap.size w0 W) (hr : W.rangeAt Bv 0 cs) (h0 : J [] W) :
    CallsIn F n Try.prog 56 #[.func (.yield l) #[] #[], .pointer (some ⟨Bv, 0, none⟩)] W fun e W' => (∃ v, e = .returned v) ∧
      ((∃ xs : List (Kid w0 ks), xs.map Kid.sv = ks ∧ J xs W') ∨ (∃ pre : List (Kid w0 ks), (∃ k, k ≤ ks.length ∧ pre.map Kid.sv = ks.take k) ∧ Jx pre W')) := by
  obtain ⟨kd, b, m, f, tx, ty, its, fls⟩ := v
  unfold VlC at hv
  obtain ⟨ai, ni, ci, af, nf, cf, rfl, hI, hFl, hni, hnf, -, -, -, -, -, -, hci, hcf⟩ := hv
  unfold Small at hsm
  obtain ⟨hlI, hlF, -⟩ := hsm
  have bI : ni ≤ 1256584717458 := by rw [← VlsAt.len its _ _ hI]; exact hlI
  have bF : nf ≤ 1099511627776 := by rw [← FlsAt.len fls _ _ hFl]; exact hlF
  clear hlI hlF hni hnf hci hcf
  have x0 : W.cell? ⟨Bv, 0, none⟩ = some (.int .i64 kd) := hr 0 _ rfl
  have x6 : W.cell? ⟨Bv, 6, none⟩ = some (.slice ai ni ci) := hr 6 _ rfl
  have x7 : W.cell? ⟨Bv, 7, none⟩ = some (.slice af nf cf) := hr 7 _ rfl
  clear hr
  refine callsIn_of_wp Try.func56 rfl hF ?_ hro
  simp only [Try.ntmps56, List.size_toArray, List.length_cons, List.length_nil, Nat.reduceAdd, Nat.reduceSub, Array.replicate_succ, Array.replicate_zero, List.push_toArray, List.append_toArray, List.nil_append, List.cons_append]
  by_cases h5 : kd = 5
  · subst h5
    have hkl := VlsAt.len its _ _ hI
    have KL := hide (show ks.length = ni by rw [← hks, kids_list]; simp [hkl])
    have KK := hide (show ∀ (k : Nat) (u : Vl), its.list[k]? = some u → ks[k]? = some (⟨⟨#[]⟩, (k : Int), true⟩, u) from fun k u hu => by rw [← hks, kids_list]; simp [List.getElem?_zipIdx, hu])
    clear hkl hks
    gi_wp2
    gi_loopw [14] (fun i wr => ∃ (k : Nat) (pre : List (Kid w0 ks)), k ≤ ni ∧ i = .int .i64 k ∧ vl.Hid (pre.map Kid.sv = ks.take k) ∧ J pre wr ∧ Below w0.heap.size w0 wr) (fun i _ => ni - (intOf i).toNat)
    case atStart => exact ⟨0, [], Nat.zero_le _, rfl, hide (by simp), h0, h0W⟩
    case round =>
      obtain ⟨k, pre, hk, rfl, hp, hJs, hnx⟩ := hrel
      by_cases hlt : k < ni
      · have ki : (k : Int) < (ni : Int) := by omega
        obtain ⟨p, off, u, us, rfl, hg, hrow, hu⟩ := VlsAt.get its _ _ hI k hlt
        have hu' := hu
        obtain ⟨ukd, ub, um, uf, utx, uty, uits, ufls⟩ := u
        unfold VlC at hu'
        obtain ⟨uai, uni, uci, uaf, unf, ucf, rfl, -⟩ := hu'
        obtain ⟨z0, z1, z2, z3, z4, z5, z6, z7⟩ := Row8.eight (Row8.below hrow hnx)
        clear hrow
        obtain ⟨x, hx⟩ : ∃ x : Kid w0 ks, x.1 = (⟨⟨#[]⟩, (k : Int), true⟩, .mk ukd ub um uf utx uty uits ufls, [.int .i64 ukd, .bool ub, .int .i64 um, .float .f64 uf, .string utx, .string uty, .slice uai uni uci, .slice uaf unf ucf]) := ⟨⟨_, hu, List.mem_of_getElem? (unhide KK k _ hg)⟩, rfl⟩
        have hsv : x.sv = (⟨⟨#[]⟩, (k : Int), true⟩, .mk ukd ub um uf utx uty uits ufls) := by unfold Kid.sv; rw [hx]
        have henc : x.enc = #[.agg #[.string ⟨#[]⟩, .int .i64 (k : Int), .bool true], .agg #[.int .i64 ukd, .bool ub, .int .i64 um, .float .f64 uf, .string utx, .string uty, .slice uai uni uci, .slice uaf unf ucf]] := by unfold Kid.enc; rw [hx]
        have hnext := hide (take_map_snoc (unhide hp) (by rw [hsv]; exact unhide KK k _ hg))
        obtain ⟨fn, tmps, assign, body, hy, hR⟩ := hY pre x (wr.alloc (.cells #[.int .i64 ukd, .bool ub, .int .i64 um, .float .f64 uf, .string utx, .string uty, .slice uai uni uci, .slice uaf unf ucf] 27)) (hJ _ _ _ none hJs (World.grownBy_alloc _ _ none) (fun r e => by cases e)) (pre_len (unhide hp) (by rw [unhide KL]; exact hlt))
        rw [henc] at hy
        have b3 : Below w0.heap.size w0 (wr.alloc (.cells #[.int .i64 ukd, .bool ub, .int .i64 um, .float .f64 uf, .string utx, .string uty, .slice uai uni uci, .slice uaf unf ucf] 27)) := hnx.alloc hnx.size _
        have B3 := hide b3
        have HR := hide hR
        have HG := hide hg
        clear hx hsv henc hg hu hY b3 hR x0 x6 x7
        have hsf := storeF
        gi_wp2
        clear hsf
        refine (unhide HR).mono ?_
        rintro e W3 (⟨rfl, hJ3, hk3⟩ | ⟨rfl, hJx3⟩)
        · gi_wp2
          go_roundw
          case rel => exact ⟨k + 1, _, by omega, by simp, hnext, hJ3, (unhide B3).trans hk3⟩
          case measure => simp [intOf]; omega
        · gi_wp2
          refine bodyPost_ret (results_none rfl _ _ _) rfl ?_
          exact ⟨⟨_, rfl⟩, .inr ⟨_, ⟨k + 1, by rw [unhide KL]; omega, unhide hnext⟩, hJx3⟩⟩
      · obtain rfl : k = ni := by omega
        gi_wp2
        go_end0
        refine ⟨⟨_, rfl⟩, .inl ⟨_, ?_, hJs⟩⟩
        have := unhide hp
        rwa [List.take_of_length_le (Nat.le_of_eq (unhide KL))] at this
  · by_cases h6 : kd = 6
    · subst h6
      have hkl := FlsAt.len fls _ _ hFl
      have KL := hide (show ks.length = nf by rw [← hks, kids_obj]; simp [hkl])
      have KK := hide (show ∀ (k : Nat) (nm : ByteArray) (u : Vl), fls.list[k]? = some (nm, u) → ks[k]? = some (⟨nm, 0, false⟩, u) from fun k nm u hu => by rw [← hks, kids_obj]; simp [hu])
      clear hkl hks
      gi_wp2
      gi_loopw [31] (fun i wr => ∃ (k : Nat) (pre : List (Kid w0 ks)), k ≤ nf ∧ i = .int .i64 k ∧ vl.Hid (pre.map Kid.sv = ks.take k) ∧ J pre wr ∧ Below w0.heap.size w0 wr) (fun i _ => nf - (intOf i).toNat)
      case atStart => exact ⟨0, [], Nat.zero_le _, rfl, hide (by simp), h0, h0W⟩
      case round =>
        obtain ⟨k, pre, hk, rfl, hp, hJs, hnx⟩ := hrel
        by_cases hlt : k < nf
        · have ki : (k : Int) < (nf : Int) := by omega
          obtain ⟨p, off, nm, u, us, rfl, hg, hn0, -, hrow, hu⟩ := FlsAt.get fls _ _ hFl k hlt
          have hu' := hu
          obtain ⟨ukd, ub, um, uf, utx, uty, uits, ufls⟩ := u
          unfold VlC at hu'
          obtain ⟨uai, uni, uci, uaf, unf, ucf, rfl, -⟩ := hu'
          obtain ⟨z0, z1, z2, z3, z4, z5, z6, z7⟩ := Row8.eight (Row8.below hrow hnx)
          have zn := keepC' hnx hn0
          clear hrow hn0
          obtain ⟨x, hx⟩ : ∃ x : Kid w0 ks, x.1 = (⟨nm, 0, false⟩, .mk ukd ub um uf utx uty uits ufls, [.int .i64 ukd, .bool ub, .int .i64 um, .float .f64 uf, .string utx, .string uty, .slice uai uni uci, .slice uaf unf ucf]) := ⟨⟨_, hu, List.mem_of_getElem? (unhide KK k nm _ hg)⟩, rfl⟩
          have hsv : x.sv = (⟨nm, 0, false⟩, .mk ukd ub um uf utx uty uits ufls) := by unfold Kid.sv; rw [hx]
          have henc : x.enc = #[.agg #[.string nm, .int .i64 0, .bool false], .agg #[.int .i64 ukd, .bool ub, .int .i64 um, .float .f64 uf, .string utx, .string uty, .slice uai uni uci, .slice uaf unf ucf]] := by unfold Kid.enc; rw [hx]
          have hnext := hide (take_map_snoc (unhide hp) (by rw [hsv]; exact unhide KK k nm _ hg))
          obtain ⟨fn, tmps, assign, body, hy, hR⟩ := hY pre x (wr.alloc (.cells #[.string nm, .int .i64 ukd, .bool ub, .int .i64 um, .float .f64 uf, .string utx, .string uty, .slice uai uni uci, .slice uaf unf ucf] 47)) (hJ _ _ _ none hJs (World.grownBy_alloc _ _ none) (fun r e => by cases e)) (pre_len (unhide hp) (by rw [unhide KL]; exact hlt))
          rw [henc] at hy
          have b3 : Below w0.heap.size w0 (wr.alloc (.cells #[.string nm, .int .i64 ukd, .bool ub, .int .i64 um, .float .f64 uf, .string utx, .string uty, .slice uai uni uci, .slice uaf unf ucf] 47)) := hnx.alloc hnx.size _
          have B3 := hide b3
          have HR := hide hR
          have HG := hide hg
          clear hx hsv henc hg hu hY b3 hR x0 x6 x7
          have hsf := storeF
          gi_wp2
          clear hsf
          refine (unhide HR).mono ?_
          rintro e W3 (⟨rfl, hJ3, hk3⟩ | ⟨rfl, hJx3⟩)
          · gi_wp2
            go_roundw
            case rel => exact ⟨k + 1, _, by omega, by simp, hnext, hJ3, (unhide B3).trans hk3⟩
            case measure => simp [intOf]; omega
          · gi_wp2
            refine bodyPost_ret (results_none rfl _ _ _) rfl ?_
            exact ⟨⟨_, rfl⟩, .inr ⟨_, ⟨k + 1, by rw [unhide KL]; omega, unhide hnext⟩, hJx3⟩⟩
        · obtain rfl : k = nf := by omega
          gi_wp2
          go_end0
          refine ⟨⟨_, rfl⟩, .inl ⟨_, ?_, hJs⟩⟩
          have := unhide hp
          rwa [List.take_of_length_le (Nat.le_of_eq (unhide KL))] at this
    · have hq5 : (kd == 5) = false := by simpa using h5
      have hq6 : (kd == 6) = false := by simpa using h6
      have HK := hide (hks.symm.trans (kids_none h5 h6 b m f tx ty its fls))
      gi_wp2
      go_end0
      exact ⟨⟨_, rfl⟩, .inl ⟨[], by rw [unhide HK]; rfl, h0⟩⟩
end Go.Proofs.Ytiblkdedbimggaa.og
namespace Go.Proofs.Ytiblkdedbimggaa.og
open Go.ChangeShapes Go.WideShapes Go.ChangeAt Go.RowKit Go.Shelf
open vl hiding cB cFl cS cF cI cK cIt
open stp (c3 c3_lt c3_gt c3_eq cB cB_tri St)
attribute [local go_sem] Oper.semAt_some
set_option linter.unusedVariables false
set_option linter.unusedSimpArgs false
theorem kids_stops (F : Fence) (n : Nat) (hF : F.fn 56) (hro : F.round = none) (hn : 1 ≤ n) (Bv : Nat) (w0 : World) (v : Vl) (cs : List Value) (hv : VlC w0 v cs) (hsm : Small v) (w : World) (h0w : Below w0.heap.size w0 w) (hB : Bv < w.heap.size) (hr : w.rangeAt Bv 0 cs) :
    SeqStopsK F n Try.prog 56 #[.pointer (some ⟨Bv, 0, none⟩)] (Kid.enc (w0 := w0) (ks := kids v)) (Below w0.heap.size) (fun xs => xs.map Kid.sv = kids v) (fun pre => ∃ k, k ≤ (kids v).length ∧ pre.map Kid.sv = (kids v).take k) (kids v).length w :=
  fun l J Jx W hW hJ hJx hY h0 => kids1_in F n hF hro hn l Bv w0 v cs hv hsm (kids v) rfl J Jx W.heap.size hJ hY W (h0w.trans (hW.mono h0w.size)) (Row8.below hr hW) h0
mutual
/-- how many parts -/
def cnt : Vl → Nat
  | .mk kd _ _ _ _ _ its fls => 1 + (if kd = 5 then cntI its else if kd = 6 then cntF fls else 0)
def cntI : Vls → Nat
  | .nil => 0
  | .cons v r => cnt v + cntI r
def cntF : Fls → Nat
  | .nil => 0
  | .cons _ v r => cnt v + cntF r
end
mutual
/-- how deep, as the machine counts -/
def depW : Vl → Int
  | .mk kd _ _ _ _ _ its fls => if kd = 5 then wrap64 (1 + mxI its 0) else if kd = 6 then wrap64 (1 + mxF fls 0) else 0
def mxI : Vls → Int → Int
  | .nil, a => a
  | .cons v r, a => mxI r (max a (depW v))
def mxF : Fls → Int → Int
  | .nil, a => a
  | .cons _ v r, a => mxF r (max a (depW v))
end
theorem cntI_sum : ∀ l : Vls, cntI l = (l.list.map cnt).sum
  | .nil => by simp [cntI, Vls.list]
  | .cons v r => by rw [cntI, cntI_sum r]; simp [Vls.list]
theorem cntF_sum : ∀ l : Fls, cntF l = (l.list.map (fun q => cnt q.2)).sum
  | .nil => by simp [cntF, Fls.list]
  | .cons nm v r => by rw [cntF, cntF_sum r]; simp [Fls.list]
theorem mxI_fold : ∀ (l : Vls) (a : Int), mxI l a = (l.list.map depW).foldl max a
  | .nil, a => by simp [mxI, Vls.list]
  | .cons v r, a => by rw [mxI, mxI_fold r]; simp [Vls.list]
theorem mxF_fold : ∀ (l : Fls) (a : Int), mxF l a = (l.list.map (fun q => depW q.2)).foldl max a
  | .nil, a => by simp [mxF, Fls.list]
  | .cons nm v r, a => by rw [mxF, mxF_fold r]; simp [Fls.list]
theorem zip_map {α β : Type} (g : α → β) : ∀ (l : List α) (i : Nat), (l.zipIdx i).map (fun p => g p.1) = l.map g
  | [], i => rfl
  | a :: l, i => by simp only [List.zipIdx_cons, List.map_cons]; rw [zip_map g l (i + 1)]
theorem kids_map {β : Type} (g : Vl → β) (kd : Int) (b : Bool) (n : Int) (f : Nat) (tx ty : ByteArray) (its : Vls) (fls : Fls) :
    (kids (.mk kd b n f tx ty its fls)).map (fun p => g p.2) = if kd = 5 then its.list.map g else if kd = 6 then fls.list.map (fun q => g q.2) else [] := by
  by_cases h5 : kd = 5
  · subst h5
    rw [kids_list, if_pos rfl, List.map_map]
    exact zip_map g its.list 0
  · by_cases h6 : kd = 6
    · subst h6
      rw [kids_obj, if_neg h5, if_pos rfl, List.map_map]
      rfl
    · rw [kids_none h5 h6, if_neg h5, if_neg h6]
      rfl
theorem cnt_kids (v : Vl) : cnt v = 1 + ((kids v).map (fun p => cnt p.2)).sum := by
  obtain ⟨kd, b, n, f, tx, ty, its, fls⟩ := v
  rw [kids_map, cnt, cntI_sum, cntF_sum]
  split
  · rfl
  · split <;> rfl
theorem dep_kids (kd : Int) (b : Bool) (n : Int) (f : Nat) (tx ty : ByteArray) (its : Vls) (fls : Fls) (h : kd = 5 ∨ kd = 6) : depW (.mk kd b n f tx ty its fls) = wrap64 (1 + ((kids (.mk kd b n f tx ty its fls)).map (fun p => depW p.2)).foldl max 0) := by
  rw [kids_map, depW, mxI_fold, mxF_fold]
  rcases h with rfl | rfl <;> simp
theorem mem_kids {P : Vl → Prop} {kd : Int} {b : Bool} {n : Int} {f : Nat} {tx ty : ByteArray} {its : Vls} {fls : Fls} (hI : ∀ v ∈ its.list, P v) (hF : ∀ q ∈ fls.list, P q.2) : ∀ p ∈ kids (.mk kd b n f tx ty its fls), P p.2 := by
  intro p hp
  have : P p.2 ∨ False := by
    have hm := List.mem_map_of_mem (f := fun p : St × Vl => p.2) hp
    rw [kids_map (fun v => v)] at hm
    split at hm
    · exact .inl (hI _ (by simpa using hm))
    · split at hm
      · simp only [List.mem_map] at hm
        obtain ⟨q, hq, e⟩ := hm
        exact .inl (e ▸ hF q hq)
      · simp at hm
  exact this.elim id False.elim
def CountAt (v : Vl) : Prop := ∀ (cs : List Value) (w : World), VlC w v cs → Calls Try.prog 14 #[.agg cs.toArray] w fun e w' => e = .returned (.int .i64 (wrap64 (cnt v : Nat))) ∧ Below w.heap.size w w'
theorem wrap_add (x y : Int) : wrap64 (wrap64 x + wrap64 y) = wrap64 (x + y) := by unfold wrap64; omega
theorem keepsFrom_below {B : Nat} {W W' : World} (h : Below W.heap.size W W') : KeepsFrom B W W' := ⟨h.size, fun k o _ hk _ => (h.block k (Array.getElem?_eq_some_iff.1 hk).1).trans hk⟩
theorem range_own {β : Type} (B : Nat) (f : β → List Value) (hne : ∀ s, f s ≠ []) : Own (fun s W => W.rangeAt B 0 (f s)) := fun s X Y row hs hg hrow j u hu => cell_kept (hs j u hu) hg hrow
set_option maxRecDepth 100000 in
set_option maxHeartbeats 4000000 in
theorem count_step (v : Vl) (hsm : Small v) (ih : ∀ p ∈ kids v, CountAt p.2) : CountAt v := by
  intro cs w hv
  have hc0 := hv
  obtain ⟨kd, b, m, f, tx, ty, its, fls⟩ := v
  unfold VlC at hc0
  obtain ⟨ai, ni, ci, af, nf, cf, rfl, -⟩ := hc0
  have hck := hide (cnt_kids (.mk kd b m f tx ty its fls))
  have hsf := storeF
  refine (callsIn_wide (n := 8)).1 ?_
  refine callsIn_of_wp_marks Try.func14 rfl trivial ?_ rfl
  simp only [Try.ntmps14, List.size_toArray, List.length_cons, List.length_nil, Nat.reduceAdd, Nat.reduceSub, Array.replicate_succ, Array.replicate_zero, List.push_toArray, List.append_toArray, List.nil_append, List.cons_append]
  gi_wp2_with (refine ⟨trivial, ?_⟩; gi_at_call 31; refine (children_in Fence.wide _ trivial rfl _ _).mono ?_; rintro e w' ⟨rfl, rfl⟩)
  obtain ⟨W0, hW0⟩ : ∃ W0, W0 = ((w.alloc (.cells #[Value.int IntKind.i64 kd, Value.bool b, Value.int IntKind.i64 m, Value.float FloatKind.f64 f, Value.string tx, Value.string ty, Value.slice ai ni ci, Value.slice af nf cf] 27)).alloc (.cells #[.int .i64 1] 3)).alloc (.cells #[Value.int IntKind.i64 kd, Value.bool b, Value.int IntKind.i64 m, Value.float FloatKind.f64 f, Value.string tx, Value.string ty, Value.slice ai ni ci, Value.slice af nf cf] 27) := ⟨_, rfl⟩
  have hB0 : Below w.heap.size w W0 := by rw [hW0]; exact (((Below.refl _ _).alloc (Nat.le_refl _) _).alloc (by simp) _).alloc (by simp; omega) _
  have hsz : w.heap.size + 2 < W0.heap.size := by rw [hW0]; simp
  have bN : Boxed W0 (w.heap.size + 1) 3 (.int .i64 1) := by rw [hW0]; have := (Boxed.new (w.alloc (.cells #[Value.int IntKind.i64 kd, Value.bool b, Value.int IntKind.i64 m, Value.float FloatKind.f64 f, Value.string tx, Value.string ty, Value.slice ai ni ci, Value.slice af nf cf] 27)) 3 (.int .i64 1)).alloc (.cells #[Value.int IntKind.i64 kd, Value.bool b, Value.int IntKind.i64 m, Value.float FloatKind.f64 f, Value.string tx, Value.string ty, Value.slice ai ni ci, Value.slice af nf cf] 27); simpa using this
  have rV : W0.rangeAt (w.heap.size + 1 + 1) 0 [Value.int IntKind.i64 kd, Value.bool b, Value.int IntKind.i64 m, Value.float FloatKind.f64 f, Value.string tx, Value.string ty, Value.slice ai ni ci, Value.slice af nf cf] := fun j x hx => by rw [hW0, Nat.zero_add, World.cell?_alloc_at _ _ _ _ (by simp)]; simpa using hx
  rw [← hW0]
  clear hW0
  have hsf2 := hide hsf
  clear hsf
  refine wpIn_rangeFunc_ownH (α := Kid w (kids (.mk kd b m f tx ty its fls))) rfl (by omega) (gf := 56) (lb := #[.pointer (some ⟨w.heap.size + 1 + 1, 0, none⟩)]) rfl trivial (enters_of Try.func56 (by kernel_rfl) rfl)
    (kids_stops Fence.wide (8 - 1) trivial rfl (by omega) (w.heap.size + 1 + 1) w (.mk kd b m f tx ty its fls) _ hv hsm W0 hB0 (by omega) rV) belowK_t (belowK_b (by omega)) (Below.refl _ _) (fun _ => rfl)
    (fun pre W => Boxed W (w.heap.size + 1) 3 (.int .i64 (wrap64 ((1 + ((pre.map Kid.sv).map (fun p => cnt p.2)).sum : Nat) : Int))) ∧ Below w.heap.size w W)
    (fun _ _ _ => False)
    (OwnFrom.and (Own.from (boxed_own _ _ _) _) (ownFrom_below (Nat.le_refl _) (by omega)))
    (fun _ _ _ _ _ hs _ _ => hs)
    ⟨(show Boxed W0 (w.heap.size + 1) 3 (.int .i64 (wrap64 ((1 + 0 : Nat) : Int))) by rw [show wrap64 ((1 + 0 : Nat) : Int) = 1 by unfold wrap64; omega]; exact bN), hB0⟩
    (fun x a' W => ∃ Bx, w.heap.size + 1 < Bx ∧ Bx < W.heap.size ∧ W.rangeAt Bx 0 x.1.2.2 ∧ a' = { tmps := #[.agg #[Value.int IntKind.i64 kd, Value.bool b, Value.int IntKind.i64 m, Value.float FloatKind.f64 f, Value.string tx, Value.string ty, Value.slice ai ni ci, Value.slice af nf cf], .pointer (some ⟨w.heap.size, 0, none⟩), .int .i64 0, .pointer (some ⟨w.heap.size + 1, 0, none⟩), undef, .pointer (some ⟨Bx, 0, none⟩), .agg #[Value.int IntKind.i64 kd, Value.bool b, Value.int IntKind.i64 m, Value.float FloatKind.f64 f, Value.string tx, Value.string ty, Value.slice ai ni ci, Value.slice af nf cf], .func (.func 56) #[] #[.pointer (some ⟨w.heap.size + 1 + 1, 0, none⟩)], .agg #[.string x.1.1.nm, .int .i64 x.1.1.ix, .bool x.1.1.it], .agg x.1.2.2.toArray, undef, undef, undef, undef, undef], defers := [] })
    (fun x a' _ X Y row hs hg hr => by obtain ⟨Bx, h1, h2, h3, h4⟩ := hs; exact ⟨Bx, h1, Nat.lt_of_lt_of_le h2 hg.size, fun j u hu => cell_kept (h3 j u hu) hg (fun r e => (hr r e).2), h4⟩)
    ?assign ?body ?done ?stop
  case assign =>
    rintro l pre x W K ⟨bN1, hB1⟩ hK
    obtain ⟨⟨s, u, us⟩, hu, hm⟩ := x
    have hu' : VlC w u us := hu
    obtain ⟨ukd, ub, um, uf, utx, uty, uits, ufls⟩ := u
    unfold VlC at hu'
    obtain ⟨uai, uni, uci, uaf, unf, ucf, rfl, -⟩ := hu'
    unfold Kid.enc
    have hsf := unhide hsf2
    clear ih hck hv
    gi_wp2
    refine hK _ _ ((KeepsOthers.alloc _ _).from _) ((Below.refl _ W).alloc hB1.size _) ⟨bN1.alloc _, hB1.alloc hB1.size _⟩ ⟨W.heap.size, bN1.lt, by simp, fun j x hx => ?_, rfl⟩
    rw [Nat.zero_add, World.cell?_alloc_at _ _ _ _ rfl]
    simpa using hx
  case body =>
    rintro l pre x a' W hl ⟨r, hr⟩ ⟨bN1, hB1⟩ ⟨Bx, hBx, hBl, hrow, rfl⟩ hlt
    obtain ⟨⟨s, u, us⟩, hu, hm⟩ := x
    have IH := hide (ih (s, u) hm us W.drew (VlC.below hB1.drew _ _ hu))
    have hsum := hide (show (1 + (((pre ++ [⟨(s, u, us), hu, hm⟩] : List (Kid w (kids (.mk kd b m f tx ty its fls)))).map Kid.sv).map (fun p => cnt p.2)).sum : Nat) = (1 + ((pre.map Kid.sv).map (fun p => cnt p.2)).sum) + cnt u by rw [List.map_append, List.map_append, List.sum_append]; show 1 + (_ + (cnt u + 0)) = _; omega)
    have hu' : VlC w u us := hu
    obtain ⟨ukd, ub, um, uf, utx, uty, uits, ufls⟩ := u
    unfold VlC at hu'
    obtain ⟨uai, uni, uci, uaf, unf, ucf, rfl, -⟩ := hu'
    obtain ⟨z0, z1, z2, z3, z4, z5, z6, z7⟩ := Row8.eight hrow
    simp only [Nat.zero_add] at z1 z2 z3 z4 z5 z6 z7
    generalize (1 + ((pre.map Kid.sv).map (fun p => cnt p.2)).sum : Nat) = S at *
    have cN := bN1.cell
    have fN := bN1.frozen
    have hmx : Try.prog.follows .mixedOrders = true := by kernel_rfl
    have lN := bN1.lt
    clear hrow hck ih hv
    gi_wp2
    gi_region_with_o (refine ⟨trivial, ?_⟩; gi_at_call 14; refine (CallsIn.inRound l (callsIn_wide.2 (unhide IH))).mono ?_; rintro e w2 ⟨rfl, b2⟩; have c2 : w2.cell? ⟨w.heap.size + 1, 0, none⟩ = some (.int .i64 (wrap64 (S : Int))) := (b2.cell (p := ⟨w.heap.size + 1, 0, none⟩) lN).trans cN; have f2 : w2.frozen? ⟨w.heap.size + 1, 0, none⟩ = false := (b2.frozen (p := ⟨w.heap.size + 1, 0, none⟩) lN).trans fN)
    all_goals gi_wp2
    all_goals (try go_bits)
    all_goals
      have bW2 : Below W.heap.size W w2 := (Below.refl _ _).drew.trans b2
      have bx2 : Boxed w2 (w.heap.size + 1) 3 (.int .i64 (wrap64 (S : Int))) := (bW2.block _ lN).trans bN1
      refine ⟨(keepsFrom_below bW2).trans ((KeepsOthers.setCell _ _ _).from _), (bW2.mono hB1.size).setCell (p := ⟨w.heap.size + 1, 0, none⟩) (Nat.le_succ _) _, ?_, (hB1.trans (bW2.mono hB1.size)).setCell (p := ⟨w.heap.size + 1, 0, none⟩) (Nat.le_succ _) _⟩
      rw [unhide hsum, Int.natCast_add]
      simp only [wrap_add]
      exact bx2.set _
  case done =>
    rintro D xs W hD hxs ⟨bN1, hB1⟩ hK
    have cN := bN1.cell
    gi_wp2
    refine ⟨by simp, .inl ⟨_, _, rfl, run_takeDeferred hK, ?_⟩⟩
    refine ⟨_, results_tmp rfl _ _ _, ?_, hB1.trans (belowK_b (w := w) (Nat.le_refl _) W D _ _ (by have := hB0.size; omega) hK rfl rfl)⟩
    rw [unhide hck, ← hxs]
    rfl
  case stop =>
    rintro D c pre W _ _ h _
    exact h.elim
theorem count_ok : ∀ v : Vl, Small v → CountAt v := by
  refine Vl.all ?_
  intro kd b n f tx ty its fls hI hF hsm
  have hs := hsm
  unfold Small at hs
  obtain ⟨-, -, -, hsI, hsF⟩ := hs
  exact count_step _ hsm (mem_kids (fun v hv => hI v hv (hsI.all v hv)) (fun q hq => hF q hq (hsF.all q hq)))
end Go.Proofs.Ytiblkdedbimggaa.og
namespace Go.Proofs.Ytiblkdedbimggaa.og
open Go.ChangeShapes Go.WideShapes Go.ChangeAt Go.RowKit Go.Shelf
open vl hiding cB cFl cS cF cI cK cIt
open stp (c3 c3_lt c3_gt c3_eq cB cB_tri St)
attribute [local go_sem] Oper.semAt_some
set_option linter.unusedVariables false
set_option linter.unusedSimpArgs false
def DepthAt (v : Vl) : Prop := ∀ (cs : List Value) (w : World), VlC w v cs → Calls Try.prog 15 #[.agg cs.toArray] w fun e w' => e = .returned (.int .i64 (depW v)) ∧ Below w.heap.size w w'
set_option maxRecDepth 100000 in
set_option maxHeartbeats 4000000 in
theorem depth5 (b : Bool) (m : Int) (f : Nat) (tx ty : ByteArray) (its : Vls) (fls : Fls) (hsm : Small (.mk 5 b m f tx ty its fls)) (ih : ∀ p ∈ kids (.mk 5 b m f tx ty its fls), DepthAt p.2) : DepthAt (.mk 5 b m f tx ty its fls) := by
  intro cs w hv
  have hc0 := hv
  unfold VlC at hc0
  obtain ⟨ai, ni, ci, af, nf, cf, rfl, -⟩ := hc0
  have hck := hide (dep_kids 5 b m f tx ty its fls (by omega))
  have hsf := storeF
  refine (callsIn_wide (n := 8)).1 ?_
  refine callsIn_of_wp_marks Try.func15 rfl trivial ?_ rfl
  simp only [Try.ntmps15, List.size_toArray, List.length_cons, List.length_nil, Nat.reduceAdd, Nat.reduceSub, Array.replicate_succ, Array.replicate_zero, List.push_toArray, List.append_toArray, List.nil_append, List.cons_append]
  gi_wp2_with (refine ⟨trivial, ?_⟩; gi_at_call 31; refine (children_in Fence.wide _ trivial rfl _ _).mono ?_; rintro e w' ⟨rfl, rfl⟩)
  obtain ⟨W0, hW0⟩ : ∃ W0, W0 = ((w.alloc (.cells #[Value.int IntKind.i64 5, Value.bool b, Value.int IntKind.i64 m, Value.float FloatKind.f64 f, Value.string tx, Value.string ty, Value.slice ai ni ci, Value.slice af nf cf] 27)).alloc (.cells #[.int .i64 0] 3)).alloc (.cells #[Value.int IntKind.i64 5, Value.bool b, Value.int IntKind.i64 m, Value.float FloatKind.f64 f, Value.string tx, Value.string ty, Value.slice ai ni ci, Value.slice af nf cf] 27) := ⟨_, rfl⟩
  have hB0 : Below w.heap.size w W0 := by rw [hW0]; exact (((Below.refl _ _).alloc (Nat.le_refl _) _).alloc (by simp) _).alloc (by simp; omega) _
  have hsz : w.heap.size + 2 < W0.heap.size := by rw [hW0]; simp
  have bN : Boxed W0 (w.heap.size + 1) 3 (.int .i64 0) := by rw [hW0]; have := (Boxed.new (w.alloc (.cells #[Value.int IntKind.i64 5, Value.bool b, Value.int IntKind.i64 m, Value.float FloatKind.f64 f, Value.string tx, Value.string ty, Value.slice ai ni ci, Value.slice af nf cf] 27)) 3 (.int .i64 0)).alloc (.cells #[Value.int IntKind.i64 5, Value.bool b, Value.int IntKind.i64 m, Value.float FloatKind.f64 f, Value.string tx, Value.string ty, Value.slice ai ni ci, Value.slice af nf cf] 27); simpa using this
  have rV : W0.rangeAt (w.heap.size + 1 + 1) 0 [Value.int IntKind.i64 5, Value.bool b, Value.int IntKind.i64 m, Value.float FloatKind.f64 f, Value.string tx, Value.string ty, Value.slice ai ni ci, Value.slice af nf cf] := fun j x hx => by rw [hW0, Nat.zero_add, World.cell?_alloc_at _ _ _ _ (by simp)]; simpa using hx
  rw [← hW0]
  clear hW0
  have hsf2 := hide hsf
  clear hsf
  refine wpIn_rangeFunc_ownH (α := Kid w (kids (.mk 5 b m f tx ty its fls))) rfl (by omega) (gf := 56) (lb := #[.pointer (some ⟨w.heap.size + 1 + 1, 0, none⟩)]) rfl trivial (enters_of Try.func56 (by kernel_rfl) rfl)
    (kids_stops Fence.wide (8 - 1) trivial rfl (by omega) (w.heap.size + 1 + 1) w (.mk 5 b m f tx ty its fls) _ hv hsm W0 hB0 (by omega) rV) belowK_t (belowK_b (by omega)) (Below.refl _ _) (fun _ => rfl)
    (fun pre W => Boxed W (w.heap.size + 1) 3 (.int .i64 (((pre.map Kid.sv).map (fun p => depW p.2)).foldl max 0)) ∧ Below w.heap.size w W)
    (fun _ _ _ => False)
    (OwnFrom.and (Own.from (boxed_own _ _ _) _) (ownFrom_below (Nat.le_refl _) (by omega)))
    (fun _ _ _ _ _ hs _ _ => hs)
    ⟨bN, hB0⟩
    (fun x a' W => ∃ Bx, w.heap.size + 1 < Bx ∧ Bx < W.heap.size ∧ W.rangeAt Bx 0 x.1.2.2 ∧ a' = { tmps := #[.agg #[Value.int IntKind.i64 5, Value.bool b, Value.int IntKind.i64 m, Value.float FloatKind.f64 f, Value.string tx, Value.string ty, Value.slice ai ni ci, Value.slice af nf cf], .pointer (some ⟨w.heap.size, 0, none⟩), .int .i64 0, .pointer (some ⟨w.heap.size + 1, 0, none⟩), undef, .pointer (some ⟨Bx, 0, none⟩), .pointer (some ⟨w.heap.size, 0, none⟩), .int .i64 5, .bool false, .bool false, undef, undef, undef, .bool false, .agg #[Value.int IntKind.i64 5, Value.bool b, Value.int IntKind.i64 m, Value.float FloatKind.f64 f, Value.string tx, Value.string ty, Value.slice ai ni ci, Value.slice af nf cf], .func (.func 56) #[] #[.pointer (some ⟨w.heap.size + 1 + 1, 0, none⟩)], .agg #[.string x.1.1.nm, .int .i64 x.1.1.ix, .bool x.1.1.it], .agg x.1.2.2.toArray, undef, undef, undef, undef, undef, undef], defers := [] })
    (fun x a' _ X Y row hs hg hr => by obtain ⟨Bx, h1, h2, h3, h4⟩ := hs; exact ⟨Bx, h1, Nat.lt_of_lt_of_le h2 hg.size, fun j u hu => cell_kept (h3 j u hu) hg (fun r e => (hr r e).2), h4⟩)
    ?assign ?body ?done ?stop
  case assign =>
    rintro l pre x W K ⟨bN1, hB1⟩ hK
    obtain ⟨⟨s, u, us⟩, hu, hm⟩ := x
    have hu' : VlC w u us := hu
    obtain ⟨ukd, ub, um, uf, utx, uty, uits, ufls⟩ := u
    unfold VlC at hu'
    obtain ⟨uai, uni, uci, uaf, unf, ucf, rfl, -⟩ := hu'
    unfold Kid.enc
    have hsf := unhide hsf2
    clear ih hck hv
    gi_wp2
    refine hK _ _ ((KeepsOthers.alloc _ _).from _) ((Below.refl _ W).alloc hB1.size _) ⟨bN1.alloc _, hB1.alloc hB1.size _⟩ ⟨W.heap.size, bN1.lt, by simp, fun j x hx => ?_, rfl⟩
    rw [Nat.zero_add, World.cell?_alloc_at _ _ _ _ rfl]
    simpa using hx
  case body =>
    rintro l pre x a' W hl ⟨r, hr⟩ ⟨bN1, hB1⟩ ⟨Bx, hBx, hBl, hrow, rfl⟩ hlt
    obtain ⟨⟨s, u, us⟩, hu, hm⟩ := x
    have IH := hide (ih (s, u) hm us W.drew (VlC.below hB1.drew _ _ hu))
    have hsum := hide (show (((pre ++ [⟨(s, u, us), hu, hm⟩] : List (Kid w (kids (.mk 5 b m f tx ty its fls)))).map Kid.sv).map (fun p => depW p.2)).foldl max 0 = max (((pre.map Kid.sv).map (fun p => depW p.2)).foldl max 0) (depW u) by rw [List.map_append, List.map_append, List.foldl_append]; rfl)
    have hu' : VlC w u us := hu
    obtain ⟨ukd, ub, um, uf, utx, uty, uits, ufls⟩ := u
    unfold VlC at hu'
    obtain ⟨uai, uni, uci, uaf, unf, ucf, rfl, -⟩ := hu'
    obtain ⟨z0, z1, z2, z3, z4, z5, z6, z7⟩ := Row8.eight hrow
    simp only [Nat.zero_add] at z1 z2 z3 z4 z5 z6 z7
    generalize ((pre.map Kid.sv).map (fun p => depW p.2)).foldl max 0 = S at *
    have cN := bN1.cell
    have fN := bN1.frozen
    have hmx : Try.prog.follows .mixedOrders = true := by kernel_rfl
    have lN := bN1.lt
    clear hrow hck ih hv
    gi_wp2
    gi_region_with_o (refine ⟨trivial, ?_⟩; gi_at_call 15; refine (CallsIn.inRound l (callsIn_wide.2 (unhide IH))).mono ?_; rintro e w2 ⟨rfl, b2⟩; have c2 : w2.cell? ⟨w.heap.size + 1, 0, none⟩ = some (.int .i64 S) := (b2.cell (p := ⟨w.heap.size + 1, 0, none⟩) lN).trans cN; have f2 : w2.frozen? ⟨w.heap.size + 1, 0, none⟩ = false := (b2.frozen (p := ⟨w.heap.size + 1, 0, none⟩) lN).trans fN)
    all_goals gi_wp2
    all_goals (try go_bits)
    all_goals
      have bW2 : Below W.heap.size W w2 := (Below.refl _ _).drew.trans b2
      have bx2 : Boxed w2 (w.heap.size + 1) 3 (.int .i64 S) := (bW2.block _ lN).trans bN1
      refine ⟨(keepsFrom_below bW2).trans ((KeepsOthers.setCell _ _ _).from _), (bW2.mono hB1.size).setCell (p := ⟨w.heap.size + 1, 0, none⟩) (Nat.le_succ _) _, ?_, (hB1.trans (bW2.mono hB1.size)).setCell (p := ⟨w.heap.size + 1, 0, none⟩) (Nat.le_succ _) _⟩
      rw [unhide hsum]
      exact bx2.set _
  case done =>
    rintro D xs W hD hxs ⟨bN1, hB1⟩ hK
    have cN := bN1.cell
    gi_wp2
    refine ⟨by simp, .inl ⟨_, _, rfl, run_takeDeferred hK, ?_⟩⟩
    refine ⟨_, results_tmp rfl _ _ _, ?_, hB1.trans (belowK_b (w := w) (Nat.le_refl _) W D _ _ (by have := hB0.size; omega) hK rfl rfl)⟩
    rw [unhide hck, ← hxs]
    rfl
  case stop =>
    rintro D c pre W _ _ h _
    exact h.elim
set_option maxRecDepth 100000 in
set_option maxHeartbeats 4000000 in
theorem depth6 (b : Bool) (m : Int) (f : Nat) (tx ty : ByteArray) (its : Vls) (fls : Fls) (hsm : Small (.mk 6 b m f tx ty its fls)) (ih : ∀ p ∈ kids (.mk 6 b m f tx ty its fls), DepthAt p.2) : DepthAt (.mk 6 b m f tx ty its fls) := by
  intro cs w hv
  have hc0 := hv
  unfold VlC at hc0
  obtain ⟨ai, ni, ci, af, nf, cf, rfl, -⟩ := hc0
  have hck := hide (dep_kids 6 b m f tx ty its fls (by omega))
  have hsf := storeF
  refine (callsIn_wide (n := 8)).1 ?_
  refine callsIn_of_wp_marks Try.func15 rfl trivial ?_ rfl
  simp only [Try.ntmps15, List.size_toArray, List.length_cons, List.length_nil, Nat.reduceAdd, Nat.reduceSub, Array.replicate_succ, Array.replicate_zero, List.push_toArray, List.append_toArray, List.nil_append, List.cons_append]
  gi_wp2_with (refine ⟨trivial, ?_⟩; gi_at_call 31; refine (children_in Fence.wide _ trivial rfl _ _).mono ?_; rintro e w' ⟨rfl, rfl⟩)
  obtain ⟨W0, hW0⟩ : ∃ W0, W0 = ((w.alloc (.cells #[Value.int IntKind.i64 6, Value.bool b, Value.int IntKind.i64 m, Value.float FloatKind.f64 f, Value.string tx, Value.string ty, Value.slice ai ni ci, Value.slice af nf cf] 27)).alloc (.cells #[.int .i64 0] 3)).alloc (.cells #[Value.int IntKind.i64 6, Value.bool b, Value.int IntKind.i64 m, Value.float FloatKind.f64 f, Value.string tx, Value.string ty, Value.slice ai ni ci, Value.slice af nf cf] 27) := ⟨_, rfl⟩
  have hB0 : Below w.heap.size w W0 := by rw [hW0]; exact (((Below.refl _ _).alloc (Nat.le_refl _) _).alloc (by simp) _).alloc (by simp; omega) _
  have hsz : w.heap.size + 2 < W0.heap.size := by rw [hW0]; simp
  have bN : Boxed W0 (w.heap.size + 1) 3 (.int .i64 0) := by rw [hW0]; have := (Boxed.new (w.alloc (.cells #[Value.int IntKind.i64 6, Value.bool b, Value.int IntKind.i64 m, Value.float FloatKind.f64 f, Value.string tx, Value.string ty, Value.slice ai ni ci, Value.slice af nf cf] 27)) 3 (.int .i64 0)).alloc (.cells #[Value.int IntKind.i64 6, Value.bool b, Value.int IntKind.i64 m, Value.float FloatKind.f64 f, Value.string tx, Value.string ty, Value.slice ai ni ci, Value.slice af nf cf] 27); simpa using this
  have rV : W0.rangeAt (w.heap.size + 1 + 1) 0 [Value.int IntKind.i64 6, Value.bool b, Value.int IntKind.i64 m, Value.float FloatKind.f64 f, Value.string tx, Value.string ty, Value.slice ai ni ci, Value.slice af nf cf] := fun j x hx => by rw [hW0, Nat.zero_add, World.cell?_alloc_at _ _ _ _ (by simp)]; simpa using hx
  rw [← hW0]
  clear hW0
  have hsf2 := hide hsf
  clear hsf
  refine wpIn_rangeFunc_ownH (α := Kid w (kids (.mk 6 b m f tx ty its fls))) rfl (by omega) (gf := 56) (lb := #[.pointer (some ⟨w.heap.size + 1 + 1, 0, none⟩)]) rfl trivial (enters_of Try.func56 (by kernel_rfl) rfl)
    (kids_stops Fence.wide (8 - 1) trivial rfl (by omega) (w.heap.size + 1 + 1) w (.mk 6 b m f tx ty its fls) _ hv hsm W0 hB0 (by omega) rV) belowK_t (belowK_b (by omega)) (Below.refl _ _) (fun _ => rfl)
    (fun pre W => Boxed W (w.heap.size + 1) 3 (.int .i64 (((pre.map Kid.sv).map (fun p => depW p.2)).foldl max 0)) ∧ Below w.heap.size w W)
    (fun _ _ _ => False)
    (OwnFrom.and (Own.from (boxed_own _ _ _) _) (ownFrom_below (Nat.le_refl _) (by omega)))
    (fun _ _ _ _ _ hs _ _ => hs)
    ⟨bN, hB0⟩
    (fun x a' W => ∃ Bx, w.heap.size + 1 < Bx ∧ Bx < W.heap.size ∧ W.rangeAt Bx 0 x.1.2.2 ∧ a' = { tmps := #[.agg #[Value.int IntKind.i64 6, Value.bool b, Value.int IntKind.i64 m, Value.float FloatKind.f64 f, Value.string tx, Value.string ty, Value.slice ai ni ci, Value.slice af nf cf], .pointer (some ⟨w.heap.size, 0, none⟩), .int .i64 0, .pointer (some ⟨w.heap.size + 1, 0, none⟩), undef, .pointer (some ⟨Bx, 0, none⟩), .pointer (some ⟨w.heap.size, 0, none⟩), .int .i64 6, .bool true, .bool true, .pointer (some ⟨w.heap.size, 0, none⟩), .int .i64 6, .bool false, .bool false, .agg #[Value.int IntKind.i64 6, Value.bool b, Value.int IntKind.i64 m, Value.float FloatKind.f64 f, Value.string tx, Value.string ty, Value.slice ai ni ci, Value.slice af nf cf], .func (.func 56) #[] #[.pointer (some ⟨w.heap.size + 1 + 1, 0, none⟩)], .agg #[.string x.1.1.nm, .int .i64 x.1.1.ix, .bool x.1.1.it], .agg x.1.2.2.toArray, undef, undef, undef, undef, undef, undef], defers := [] })
    (fun x a' _ X Y row hs hg hr => by obtain ⟨Bx, h1, h2, h3, h4⟩ := hs; exact ⟨Bx, h1, Nat.lt_of_lt_of_le h2 hg.size, fun j u hu => cell_kept (h3 j u hu) hg (fun r e => (hr r e).2), h4⟩)
    ?assign ?body ?done ?stop
  case assign =>
    rintro l pre x W K ⟨bN1, hB1⟩ hK
    obtain ⟨⟨s, u, us⟩, hu, hm⟩ := x
    have hu' : VlC w u us := hu
    obtain ⟨ukd, ub, um, uf, utx, uty, uits, ufls⟩ := u
    unfold VlC at hu'
    obtain ⟨uai, uni, uci, uaf, unf, ucf, rfl, -⟩ := hu'
    unfold Kid.enc
    have hsf := unhide hsf2
    clear ih hck hv
    gi_wp2
    refine hK _ _ ((KeepsOthers.alloc _ _).from _) ((Below.refl _ W).alloc hB1.size _) ⟨bN1.alloc _, hB1.alloc hB1.size _⟩ ⟨W.heap.size, bN1.lt, by simp, fun j x hx => ?_, rfl⟩
    rw [Nat.zero_add, World.cell?_alloc_at _ _ _ _ rfl]
    simpa using hx
  case body =>
    rintro l pre x a' W hl ⟨r, hr⟩ ⟨bN1, hB1⟩ ⟨Bx, hBx, hBl, hrow, rfl⟩ hlt
    obtain ⟨⟨s, u, us⟩, hu, hm⟩ := x
    have IH := hide (ih (s, u) hm us W.drew (VlC.below hB1.drew _ _ hu))
    have hsum := hide (show (((pre ++ [⟨(s, u, us), hu, hm⟩] : List (Kid w (kids (.mk 6 b m f tx ty its fls)))).map Kid.sv).map (fun p => depW p.2)).foldl max 0 = max (((pre.map Kid.sv).map (fun p => depW p.2)).foldl max 0) (depW u) by rw [List.map_append, List.map_append, List.foldl_append]; rfl)
    have hu' : VlC w u us := hu
    obtain ⟨ukd, ub, um, uf, utx, uty, uits, ufls⟩ := u
    unfold VlC at hu'
    obtain ⟨uai, uni, uci, uaf, unf, ucf, rfl, -⟩ := hu'
    obtain ⟨z0, z1, z2, z3, z4, z5, z6, z7⟩ := Row8.eight hrow
    simp only [Nat.zero_add] at z1 z2 z3 z4 z5 z6 z7
    generalize ((pre.map Kid.sv).map (fun p => depW p.2)).foldl max 0 = S at *
    have cN := bN1.cell
    have fN := bN1.frozen
    have hmx : Try.prog.follows .mixedOrders = true := by kernel_rfl
    have lN := bN1.lt
    clear hrow hck ih hv
    gi_wp2
    gi_region_with_o (refine ⟨trivial, ?_⟩; gi_at_call 15; refine (CallsIn.inRound l (callsIn_wide.2 (unhide IH))).mono ?_; rintro e w2 ⟨rfl, b2⟩; have c2 : w2.cell? ⟨w.heap.size + 1, 0, none⟩ = some (.int .i64 S) := (b2.cell (p := ⟨w.heap.size + 1, 0, none⟩) lN).trans cN; have f2 : w2.frozen? ⟨w.heap.size + 1, 0, none⟩ = false := (b2.frozen (p := ⟨w.heap.size + 1, 0, none⟩) lN).trans fN)
    all_goals gi_wp2
    all_goals (try go_bits)
    all_goals
      have bW2 : Below W.heap.size W w2 := (Below.refl _ _).drew.trans b2
      have bx2 : Boxed w2 (w.heap.size + 1) 3 (.int .i64 S) := (bW2.block _ lN).trans bN1
      refine ⟨(keepsFrom_below bW2).trans ((KeepsOthers.setCell _ _ _).from _), (bW2.mono hB1.size).setCell (p := ⟨w.heap.size + 1, 0, none⟩) (Nat.le_succ _) _, ?_, (hB1.trans (bW2.mono hB1.size)).setCell (p := ⟨w.heap.size + 1, 0, none⟩) (Nat.le_succ _) _⟩
      rw [unhide hsum]
      exact bx2.set _
  case done =>
    rintro D xs W hD hxs ⟨bN1, hB1⟩ hK
    have cN := bN1.cell
    gi_wp2
    refine ⟨by simp, .inl ⟨_, _, rfl, run_takeDeferred hK, ?_⟩⟩
    refine ⟨_, results_tmp rfl _ _ _, ?_, hB1.trans (belowK_b (w := w) (Nat.le_refl _) W D _ _ (by have := hB0.size; omega) hK rfl rfl)⟩
    rw [unhide hck, ← hxs]
    rfl
  case stop =>
    rintro D c pre W _ _ h _
    exact h.elim
theorem depth0 (kd : Int) (b : Bool) (m : Int) (f : Nat) (tx ty : ByteArray) (its : Vls) (fls : Fls) (h5 : kd ≠ 5) (h6 : kd ≠ 6) : DepthAt (.mk kd b m f tx ty its fls) := by
  intro cs w hv
  unfold VlC at hv
  obtain ⟨ai, ni, ci, af, nf, cf, rfl, -⟩ := hv
  have hd := hide (show depW (.mk kd b m f tx ty its fls) = 0 by rw [depW, if_neg h5, if_neg h6])
  have q5 : (kd != 5) = true := by simpa using h5
  have q6 : (kd != 6) = true := by simpa using h6
  go_enter Try.func15, Try.ntmps15
  go_wp2
  go_ret
  exact ⟨by rw [unhide hd]; rfl, (Below.refl _ _).alloc (Nat.le_refl _) _⟩
theorem depth_ok : ∀ v : Vl, Small v → DepthAt v := by
  refine Vl.all ?_
  intro kd b n f tx ty its fls hI hF hsm
  have hs := hsm
  unfold Small at hs
  obtain ⟨-, -, -, hsI, hsF⟩ := hs
  have ih : ∀ p ∈ kids (.mk kd b n f tx ty its fls), DepthAt p.2 := mem_kids (fun v hv => hI v hv (hsI.all v hv)) (fun q hq => hF q hq (hsF.all q hq))
  by_cases h5 : kd = 5
  · subst h5; exact depth5 _ _ _ _ _ _ _ hsm ih
  · by_cases h6 : kd = 6
    · subst h6; exact depth6 _ _ _ _ _ _ _ hsm ih
    · exact depth0 _ _ _ _ _ _ _ _ h5 h6
end Go.Proofs.Ytiblkdedbimggaa.og
namespace Go.Proofs.Ytiblkdedbimggaa.og
open Go.ChangeShapes Go.WideShapes Go.ChangeAt Go.RowKit
open vl hiding cB cFl cS cF cI cK cIt
set_option linter.unusedVariables false
set_option linter.unusedSimpArgs false
theorem two_eq : (ordV twoV twoV == 0) = true := by rw [ordV_self]; rfl
theorem two_ne : (ordV twoV (turnV twoV) == 0) = false := by kernel_rfl
theorem two_cnt : wrap64 (cnt twoV : Nat) = 6 := by
  have : cnt twoV = 6 := by kernel_rfl
  rw [this]
  unfold wrap64
  omega
theorem two_dep : depW twoV = 3 := by kernel_rfl
set_option maxHeartbeats 4000000 in
set_option maxRecDepth 6000 in
theorem known_ok (w : World) : Calls Try.prog 8 #[] w fun e w' => e = .returned (.bool true) ∧ Below w.heap.size w w' := by
  go_enter Try.func8, Try.ntmps8
  go_wp2_with fail
  refine (two_ok _).mono ?_
  rintro e w1 ⟨b1, t1, rfl, v1⟩
  generalize twoC t1 = c1 at *
  go_wp2_with fail
  refine (two_ok _).mono ?_
  rintro e w2 ⟨b2, t2, rfl, v2⟩
  generalize twoC t2 = c2 at *
  go_wp2_with fail
  refine (equal_ok twoV twoV Small.twoV Small.twoV _ _ _ (VlC.below b2 _ _ v1) v2).mono ?_
  rintro e w3 ⟨rfl, b3⟩
  rw [two_eq]
  have B3 : Below w.heap.size w w3 := (b1.trans (b2.mono b1.size)).trans (b3.mono (Nat.le_trans b1.size b2.size))
  clear b1 b2 b3 v1 v2
  go_wp2_with fail
  refine (two_ok _).mono ?_
  rintro e w4 ⟨b4, t3, rfl, v3⟩
  generalize twoC t3 = c3 at *
  go_wp2_with fail
  refine (two_ok _).mono ?_
  rintro e w5 ⟨b5, t4, rfl, v4⟩
  generalize twoC t4 = c4 at *
  go_wp2_with fail
  refine (turned_ok twoV Small.twoV (fun _ => False) c4 _ (fun b hb => hb.elim) (AvC.of _ _ v4)).mono ?_
  rintro e w6 ⟨u, d4, rfl, rfl, a4, b6⟩
  go_wp2_with fail
  refine (equal_ok twoV (turnV twoV) Small.twoV (Small.turn _ Small.twoV) _ _ _ (VlC.below b6 _ _ (VlC.below b5 _ _ v3)) (AvC.read _ _ a4)).mono ?_
  rintro e w7 ⟨rfl, b7⟩
  rw [two_ne]
  have B7 : Below w.heap.size w w7 := by
    have s4 := b4.size; have s5 := b5.size; have s6 := b6.size; have s3 := B3.size
    exact (((B3.trans (b4.mono s3)).trans (b5.mono (by omega))).trans (b6.mono (by omega))).trans (b7.mono (by omega))
  clear b4 b5 b6 b7 v3 v4 a4 B3
  go_wp2_with fail
  refine (two_ok _).mono ?_
  rintro e w8 ⟨b8, t5, rfl, v5⟩
  generalize twoC t5 = c5 at *
  go_wp2_with fail
  refine (two_ok _).mono ?_
  rintro e w9 ⟨b9, t6, rfl, v6⟩
  generalize twoC t6 = c6 at *
  go_wp2_with fail
  refine (turned_ok twoV Small.twoV (fun _ => False) c6 _ (fun b hb => hb.elim) (AvC.of _ _ v6)).mono ?_
  rintro e wa ⟨u, d6, rfl, rfl, a6, ba⟩
  go_wp2_with fail
  refine (same_ok twoV (turnV twoV) Small.twoV (Small.turn _ Small.twoV) _ _ _ (VlC.below ba _ _ (VlC.below b9 _ _ v5)) (AvC.read _ _ a6)).mono ?_
  rintro e wb ⟨v', u', h1, h2, rfl, bb⟩
  rw [show (ordV v' u' == 0) = true by rw [pm_srt twoV Small.twoV _ (Small.turn _ Small.twoV) (Pm.turn twoV) v' u' h1 h2]; rfl]
  have Bb : Below w.heap.size w wb := by
    have s4 := b8.size; have s5 := b9.size; have s6 := ba.size; have s3 := B7.size
    exact (((B7.trans (b8.mono s3)).trans (b9.mono (by omega))).trans (ba.mono (by omega))).trans (bb.mono (by omega))
  clear b8 b9 ba bb v5 v6 a6 B7 h1 h2
  go_wp2_with fail
  refine (two_ok _).mono ?_
  rintro e wc ⟨bc, t7, rfl, v7⟩
  generalize twoC t7 = c7 at *
  go_wp2_with fail
  refine (count_ok twoV Small.twoV _ _ v7).mono ?_
  rintro e wd ⟨rfl, bd⟩
  rw [two_cnt]
  have Bd : Below w.heap.size w wd := (Bb.trans (bc.mono Bb.size)).trans (bd.mono (Nat.le_trans Bb.size bc.size))
  clear bc bd Bb v7
  go_wp2_with fail
  refine (two_ok _).mono ?_
  rintro e we ⟨be, t8, rfl, v8⟩
  generalize twoC t8 = c8 at *
  go_wp2_with fail
  refine (depth_ok twoV Small.twoV _ _ v8).mono ?_
  rintro e wf ⟨rfl, bf⟩
  rw [two_dep]
  have Bf : Below w.heap.size w wf := (Bd.trans (be.mono Bd.size)).trans (bf.mono (Nat.le_trans Bd.size be.size))
  clear be bf Bd v8
  go_wp2
  go_ret
  exact ⟨rfl, Bf⟩
end Go.Proofs.Ytiblkdedbimggaa.og
namespace Go.Proofs.Ytiblkdedbimggaa.og
open Go.ChangeShapes Go.WideShapes Go.ChangeAt Go.RowKit
open vl hiding cB cFl cS cF cI cK cIt
set_option linter.unusedVariables false
set_option linter.unusedSimpArgs false
theorem sum_perm {l m : List Nat} (h : l.Perm m) : l.sum = m.sum := by
  induction h with
  | nil => rfl
  | cons x _ ih => simp [ih]
  | swap x y l => simp; omega
  | trans _ _ h1 h2 => exact h1.trans h2
theorem fmax_perm {l m : List Int} (h : l.Perm m) : ∀ a : Int, l.foldl max a = m.foldl max a := by
  induction h with
  | nil => intro a; rfl
  | cons x _ ih => intro a; exact ih _
  | swap x y l => intro a; simp only [List.foldl_cons]; rw [show max (max a y) x = max (max a x) y by omega]
  | trans _ _ h1 h2 => intro a; exact (h1 a).trans (h2 a)
theorem cnt_turn : ∀ v : Vl, cnt (turnV v) = cnt v := by
  refine Vl.all ?_
  intro kd b n f tx ty its fls hI hF
  rw [turnV, cnt, cnt, cntI_sum, cntI_sum, cntF_sum, cntF_sum, turnI_list, turnF_list]
  have e1 : ((its.list.map turnV).map cnt) = its.list.map cnt := by
    rw [List.map_map]; exact List.map_congr_left (fun v hv => hI v hv)
  have e2 : ((fls.list.reverse.map (fun q => (q.1, turnV q.2)) ++ (Fls.nil).list).map (fun q => cnt q.2)).sum = (fls.list.map (fun q => cnt q.2)).sum := by
    simp only [Fls.list, List.append_nil, List.map_map]
    rw [show fls.list.reverse.map ((fun q : ByteArray × Vl => cnt q.2) ∘ fun q => (q.1, turnV q.2)) = fls.list.reverse.map (fun q => cnt q.2) from List.map_congr_left (fun q hq => hF q (List.mem_reverse.1 hq))]
    exact sum_perm ((List.reverse_perm _).map _)
  rw [e1, e2]
theorem dep_turn : ∀ v : Vl, depW (turnV v) = depW v := by
  refine Vl.all ?_
  intro kd b n f tx ty its fls hI hF
  rw [turnV, depW, depW, mxI_fold, mxI_fold, mxF_fold, mxF_fold, turnI_list, turnF_list]
  have e1 : ((its.list.map turnV).map depW) = its.list.map depW := by
    rw [List.map_map]; exact List.map_congr_left (fun v hv => hI v hv)
  have e2 : ((fls.list.reverse.map (fun q => (q.1, turnV q.2)) ++ (Fls.nil).list).map (fun q => depW q.2)).foldl max 0 = (fls.list.map (fun q => depW q.2)).foldl max 0 := by
    simp only [Fls.list, List.append_nil, List.map_map]
    rw [show fls.list.reverse.map ((fun q : ByteArray × Vl => depW q.2) ∘ fun q => (q.1, turnV q.2)) = fls.list.reverse.map (fun q => depW q.2) from List.map_congr_left (fun q hq => hF q (List.mem_reverse.1 hq))]
    exact fmax_perm ((List.reverse_perm _).map _) 0
  rw [e1, e2]
open Classical in
/-- what tree.Same answers -/
noncomputable def smB (v u : Vl) : Bool := decide (∃ v' u', Srt v v' ∧ Srt u u' ∧ ordV v' u' = 0)
theorem srt_lvl {v v1 v2 : Vl} (hv : Small v) (h1 : Srt v v1) (h2 : Srt v v2) : ordV v1 v2 = 0 := pm_srt v hv v hv (Pm.refl v) v1 v2 h1 h2
theorem ordV_zero_trans {a b c : Vl} (ha : Small a) (hb : Small b) (hc : Small c) (h : ordV a b = 0) (k : ordV b c = 0) : ordV a c = 0 := ((Tr.ordV a ha b hb c hc).1 h).trans k
theorem ordV_zero_symm {a b : Vl} (ha : Small a) (hb : Small b) (h : ordV a b = 0) : ordV b a = 0 := by rw [ordV_anti a b ha hb, h]; rfl
theorem smB_of {v u v' u' : Vl} (hv : Small v) (hu : Small u) (h1 : Srt v v') (h2 : Srt u u') : smB v u = (ordV v' u' == 0) := by
  unfold smB
  by_cases h : ordV v' u' = 0
  · rw [h]
    exact @decide_eq_true _ (_) ⟨v', u', h1, h2, h⟩
  · rw [show (ordV v' u' == 0) = false by simpa using h]
    refine @decide_eq_false _ (_) ?_
    rintro ⟨a, b, ka, kb, k⟩
    have sa := Srt.small _ _ hv ka
    have sb := Srt.small _ _ hu kb
    have s1 := Srt.small _ _ hv h1
    have s2 := Srt.small _ _ hu h2
    exact h (ordV_zero_trans s1 sa s2 (srt_lvl hv h1 ka) (ordV_zero_trans sa sb s2 k (srt_lvl hu kb h2)))
theorem same_okB (v u : Vl) (hv : Small v) (hu : Small u) (cs ds : List Value) (w : World) (h1 : VlC w v cs) (h2 : VlC w u ds) : Calls Try.prog 12 #[.agg cs.toArray, .agg ds.toArray] w fun e w' => e = .returned (.bool (smB v u)) ∧ Below w.heap.size w w' ∧ (∃ v', Srt v v') ∧ ∃ u', Srt u u' :=
  (same_ok v u hv hu cs ds w h1 h2).mono fun e w' ⟨v', u', k1, k2, k3, k4⟩ => ⟨by rw [smB_of hv hu k1 k2]; exact k3, k4, ⟨v', k1⟩, ⟨u', k2⟩⟩
theorem smB_pm {v u : Vl} (hv : Small v) (hu : Small u) (hp : Pm v u) (h1 : ∃ v', Srt v v') (h2 : ∃ u', Srt u u') : smB v u = true := by
  obtain ⟨v', h1⟩ := h1
  obtain ⟨u', h2⟩ := h2
  rw [smB_of hv hu h1 h2, pm_srt v hv u hu hp v' u' h1 h2]
  rfl
theorem smB_symm {v u : Vl} (hv : Small v) (hu : Small u) : smB u v = smB v u := by
  unfold smB
  refine (@decide_eq_decide _ _ (_) (_)).2 ⟨?_, ?_⟩
  · rintro ⟨a, b, ka, kb, k⟩
    exact ⟨b, a, kb, ka, ordV_zero_symm (Srt.small _ _ hu ka) (Srt.small _ _ hv kb) k⟩
  · rintro ⟨a, b, ka, kb, k⟩
    exact ⟨b, a, kb, ka, ordV_zero_symm (Srt.small _ _ hv ka) (Srt.small _ _ hu kb) k⟩
theorem smB_left {v t u : Vl} (hv : Small v) (ht : Small t) (hu : Small u) (hp : Pm v t) (h1 : ∃ v', Srt v v') (h2 : ∃ u', Srt t u') : smB t u = smB v u := by
  unfold smB
  obtain ⟨x, h1⟩ := h1
  obtain ⟨y, h2⟩ := h2
  have sx := Srt.small _ _ hv h1
  have sy := Srt.small _ _ ht h2
  refine (@decide_eq_decide _ _ (_) (_)).2 ⟨?_, ?_⟩
  · rintro ⟨a, b, ka, kb, k⟩
    exact ⟨x, b, h1, kb, ordV_zero_trans sx (Srt.small _ _ ht ka) (Srt.small _ _ hu kb) (pm_srt v hv t ht hp x a h1 ka) k⟩
  · rintro ⟨a, b, ka, kb, k⟩
    exact ⟨y, b, h2, kb, ordV_zero_trans sy (Srt.small _ _ hv ka) (Srt.small _ _ hu kb) (ordV_zero_symm (Srt.small _ _ hv ka) sy (pm_srt v hv t ht hp a y ka h2)) k⟩
end Go.Proofs.Ytiblkdedbimggaa.og
namespace Go.Proofs.Ytiblkdedbimggaa.og
open Go.ChangeShapes Go.WideShapes Go.ChangeAt Go.RowKit
open vl hiding cB cFl cS cF cI cK cIt
set_option linter.unusedVariables false
set_option linter.unusedSimpArgs false
/-- what was there is there -/
def Gb (a w : World) : Prop := Below a.heap.size a w
theorem Gb.refl (a : World) : Gb a a := Below.refl _ _
theorem Gb.drew {a w : World} (h : Gb a w) : Gb a { w with drawn := w.drawn + 1 } := Below.drew h
theorem Gb.size {a w : World} (h : Gb a w) : a.heap.size ≤ w.heap.size := Below.size h
theorem Gb.trans {a w x : World} (h : Gb a w) (k : Below a.heap.size w x) : Gb a x := Below.trans h k
set_option maxHeartbeats 8000000 in
set_option maxRecDepth 6000 in
theorem law_sameturns (v x : Vl) (cs xs : List Value) (w : World) (hv : VlC w v cs) (hx : VlC w x xs) (hsv : Small v) (hsx : Small x) :
    Calls Try.prog 4 #[.agg cs.toArray, .agg xs.toArray] w fun e w' => e = .returned (.bool true) ∧ Below w.heap.size w w' := by
  have hst := Small.turn v hsv
  have I_a := hide (show (Try.prog.info? 27).map (·.size) = some cs.length by rw [hv.cells]; exact infoV)
  have I_b := hide (show (Try.prog.info? 27).map (·.size) = some xs.length by rw [hx.cells]; exact infoV)
  obtain ⟨W, eW⟩ : ∃ W, W = ((w.alloc (.cells cs.toArray 27)).alloc (.cells xs.toArray 27)) := ⟨_, rfl⟩
  have BW : Below w.heap.size w W := by rw [eW]; exact ((Below.refl _ _).alloc (Nat.le_refl _) _).alloc (by simp) _
  have R_a := hide (show W.rangeAt w.heap.size 0 cs from fun j u hu => by
    rw [Nat.zero_add, eW, World.cell?_alloc_past _ _ _ (by simp), World.cell?_alloc_at _ _ _ _ rfl]; simpa using hu)
  have R_b := hide (show W.rangeAt (w.heap.size + 1) 0 xs from fun j u hu => by
    rw [Nat.zero_add, eW, World.cell?_alloc_at _ _ _ _ (by simp)]; simpa using hu)
  have V_a := hide (VlC.below BW _ _ hv)
  have V_b := hide (VlC.below BW _ _ hx)
  have EW := hide eW
  clear eW hv hx
  go_enter Try.func4, Try.ntmps4
  go_wp2_with fail
  rw [← unhide EW]
  clear EW
  refine (known_ok W).mono ?_
  rintro e w1 ⟨rfl, bG⟩
  have R_a := hide (Row8.below (unhide R_a) bG)
  have V_a := hide (VlC.below bG _ _ (unhide V_a))
  have R_b := hide (Row8.below (unhide R_b) bG)
  have V_b := hide (VlC.below bG _ _ (unhide V_b))
  have BW : Below w.heap.size w w1 := BW.trans (bG.mono BW.size)
  clear bG
  go_wp2_with (refine wpList_load_mid (by rfl) 27 _ (by rfl) (w.heap.size) 0 (by rfl) cs _ (unhide R_a) Try.underlying27 (by rfl) (unhide I_a) ?_)
  refine (turned_ok v hsv (fun _ => False) cs _ (fun b hb => hb.elim) (AvC.of _ _ (unhide V_a))).mono ?_
  rintro e w2 ⟨u, ts, rfl, rfl, hat, bG⟩
  have hfr := AvC.read _ _ hat
  clear hat
  have R_a := hide (Row8.below (unhide R_a) bG)
  have V_a := hide (VlC.below bG _ _ (unhide V_a))
  have R_b := hide (Row8.below (unhide R_b) bG)
  have V_b := hide (VlC.below bG _ _ (unhide V_b))
  have BW : Below w.heap.size w w2 := BW.trans (bG.mono BW.size)
  clear bG
  have d8 := hfr.cells
  have d1_t := hfr.one
  have I_t := hide (show (Try.prog.info? 27).map (·.size) = some ts.length by rw [d8]; exact infoV)
  have J_t := hide (show (Try.prog.info? 27).map (·.size) = some ts.toArray.size by simp [d8, infoV])
  have T_t := hide (show (w2.alloc (.cells #[.int .i64 0, .bool false, .int .i64 0, .float .f64 0, .string { data := #[] }, .string { data := #[] }, .slice none 0 0, .slice none 0 0] 27)).there w2.heap.size 0 ts.toArray.size from there_new (by simp [d8]))
  obtain ⟨X, eX⟩ : ∃ X, X = (w2.alloc (.cells #[.int .i64 0, .bool false, .int .i64 0, .float .f64 0, .string { data := #[] }, .string { data := #[] }, .slice none 0 0, .slice none 0 0] 27)).setCells w2.heap.size 0 ts := ⟨_, rfl⟩
  have bX : Below w2.heap.size w2 X := by rw [eX]; exact below_setCells _ _ _ _ ((Below.refl _ _).alloc (Nat.le_refl _) _) (Nat.le_refl _)
  have R_t := hide (show X.rangeAt w2.heap.size 0 ts by rw [eX]; exact World.rangeAt_setCells_same _ _ _ _ (unhide T_t))
  have V_t := hide (VlC.below bX _ _ hfr)
  have E_t := hide eX
  clear eX d8 hfr
  have R_a := hide (Row8.below (unhide R_a) bX)
  have V_a := hide (VlC.below bX _ _ (unhide V_a))
  have R_b := hide (Row8.below (unhide R_b) bX)
  have V_b := hide (VlC.below bX _ _ (unhide V_b))
  have BW : Below w.heap.size w X := BW.trans (bX.mono BW.size)
  clear bX
  go_wp2_with (refine wpList_store_mid (by rfl) 27 _ _ (by rfl) w2.heap.size 0 ts.toArray (by rfl) (by rfl) (unhide T_t) (unhide J_t) d1_t ?_; rw [show (w2.alloc (.cells #[.int .i64 0, .bool false, .int .i64 0, .float .f64 0, .string { data := #[] }, .string { data := #[] }, .slice none 0 0, .slice none 0 0] 27)).setCells w2.heap.size 0 ts.toArray.toList = X from (unhide E_t).symm])
  clear T_t J_t E_t d1_t
  have hS0 : Gb X { X with drawn := X.drawn + 1 } := Gb.drew (Gb.refl _)
  refine wp_region_noPanic ?_
  refine wp_region_held (S := fun w' => Gb X w') mixed ?_
  refine wpAnyH_take (i := 0) rfl (by kernel_rfl) (by kernel_rfl) (by kernel_rfl) (fun _ _ _ h => h) (yieldsIf_load_mid (by rfl) 27 _ (by rfl) w.heap.size 0 (by rfl) cs _ (fun w' hw' => Row8.below (unhide R_a) hw') Try.underlying27 (by rfl) (unhide I_a)) hS0 ?_
  simp only [List.getElem_toArray, List.getElem_cons_zero, List.getElem_cons_succ, Act.put, List.setIfInBounds_toArray, List.set_cons_zero, List.set_cons_succ]
  refine wpAnyH_take (i := 1) rfl (by kernel_rfl) (by kernel_rfl) (by kernel_rfl) (fun _ _ _ h => h) (yieldsIf_load_mid (by rfl) 27 _ (by rfl) w2.heap.size 0 (by rfl) ts _ (fun w' hw' => Row8.below (unhide R_t) hw') Try.underlying27 (by rfl) (unhide I_t)) hS0 ?_
  simp only [List.getElem_toArray, List.getElem_cons_zero, List.getElem_cons_succ, Act.put, List.setIfInBounds_toArray, List.set_cons_zero, List.set_cons_succ]
  refine rgn.one (i := 2) _ rfl (by kernel_rfl) (by rfl) ?_
  simp only [List.getElem_toArray, List.getElem_cons_zero, List.getElem_cons_succ, Act.put, List.setIfInBounds_toArray, List.set_cons_zero, List.set_cons_succ]
  go_wp2_with fail
  refine (same_okB v (turnV v) hsv hst cs ts _ (VlC.below hS0 _ _ (unhide V_a)) (VlC.below hS0 _ _ (unhide V_t))).mono ?_
  rintro e y3 ⟨rfl, g, e1, e2⟩
  have EA := hide (And.intro e1 e2)
  rw [smB_pm hsv hst (Pm.turn v) e1 e2]
  clear e1 e2
  have hS0 : Gb X y3 := hS0.trans (g.mono hS0.size)
  clear g
  refine ⟨hS0, ?_⟩
  refine rgn.take (i := 3) _ (.bool false) rfl (by kernel_rfl) (by kernel_rfl) (by kernel_rfl) (fun _ _ _ h => h) (by rfl) hS0 (fun w' hw' => by clear hw'; go_simp) ?_
  simp only [List.getElem_toArray, List.getElem_cons_zero, List.getElem_cons_succ, Act.put, List.setIfInBounds_toArray, List.set_cons_zero, List.set_cons_succ]
  refine rgn.take (i := 4) _ (.bool false) rfl (by kernel_rfl) (by kernel_rfl) (by kernel_rfl) (fun _ _ _ h => h) (by rfl) hS0 (fun w' hw' => by clear hw'; go_simp) ?_
  simp only [List.getElem_toArray, List.getElem_cons_zero, List.getElem_cons_succ, Act.put, List.setIfInBounds_toArray, List.set_cons_zero, List.set_cons_succ]
  refine wpAnyH_take (i := 5) rfl (by kernel_rfl) (by kernel_rfl) (by kernel_rfl) (fun _ _ _ h => h) (yieldsIf_load_mid (by rfl) 27 _ (by rfl) w2.heap.size 0 (by rfl) ts _ (fun w' hw' => Row8.below (unhide R_t) hw') Try.underlying27 (by rfl) (unhide I_t)) hS0 ?_
  simp only [List.getElem_toArray, List.getElem_cons_zero, List.getElem_cons_succ, Act.put, List.setIfInBounds_toArray, List.set_cons_zero, List.set_cons_succ]
  refine wpAnyH_take (i := 6) rfl (by kernel_rfl) (by kernel_rfl) (by kernel_rfl) (fun _ _ _ h => h) (yieldsIf_load_mid (by rfl) 27 _ (by rfl) w.heap.size 0 (by rfl) cs _ (fun w' hw' => Row8.below (unhide R_a) hw') Try.underlying27 (by rfl) (unhide I_a)) hS0 ?_
  simp only [List.getElem_toArray, List.getElem_cons_zero, List.getElem_cons_succ, Act.put, List.setIfInBounds_toArray, List.set_cons_zero, List.set_cons_succ]
  refine rgn.one (i := 7) _ rfl (by kernel_rfl) (by rfl) ?_
  simp only [List.getElem_toArray, List.getElem_cons_zero, List.getElem_cons_succ, Act.put, List.setIfInBounds_toArray, List.set_cons_zero, List.set_cons_succ]
  go_wp2_with fail
  refine (same_okB (turnV v) v hst hsv ts cs _ (VlC.below hS0 _ _ (unhide V_t)) (VlC.below hS0 _ _ (unhide V_a))).mono ?_
  rintro e y8 ⟨rfl, g, e1, e2⟩
  rw [smB_symm hsv hst, smB_pm hsv hst (Pm.turn v) e2 e1]
  clear e1 e2
  have hS0 : Gb X y8 := hS0.trans (g.mono hS0.size)
  clear g
  refine ⟨hS0, ?_⟩
  refine rgn.take (i := 8) _ (.bool false) rfl (by kernel_rfl) (by kernel_rfl) (by kernel_rfl) (fun _ _ _ h => h) (by rfl) hS0 (fun w' hw' => by clear hw'; go_simp) ?_
  simp only [List.getElem_toArray, List.getElem_cons_zero, List.getElem_cons_succ, Act.put, List.setIfInBounds_toArray, List.set_cons_zero, List.set_cons_succ]
  refine rgn.take (i := 9) _ (.bool false) rfl (by kernel_rfl) (by kernel_rfl) (by kernel_rfl) (fun _ _ _ h => h) (by rfl) hS0 (fun w' hw' => by clear hw'; go_simp) ?_
  simp only [List.getElem_toArray, List.getElem_cons_zero, List.getElem_cons_succ, Act.put, List.setIfInBounds_toArray, List.set_cons_zero, List.set_cons_succ]
  refine rgn.take (i := 10) _ (.bool false) rfl (by kernel_rfl) (by kernel_rfl) (by kernel_rfl) (fun _ _ _ h => h) (by rfl) hS0 (fun w' hw' => by clear hw'; go_simp) ?_
  simp only [List.getElem_toArray, List.getElem_cons_zero, List.getElem_cons_succ, Act.put, List.setIfInBounds_toArray, List.set_cons_zero, List.set_cons_succ]
  refine wpAnyH_take (i := 11) rfl (by kernel_rfl) (by kernel_rfl) (by kernel_rfl) (fun _ _ _ h => h) (yieldsIf_load_mid (by rfl) 27 _ (by rfl) w.heap.size 0 (by rfl) cs _ (fun w' hw' => Row8.below (unhide R_a) hw') Try.underlying27 (by rfl) (unhide I_a)) hS0 ?_
  simp only [List.getElem_toArray, List.getElem_cons_zero, List.getElem_cons_succ, Act.put, List.setIfInBounds_toArray, List.set_cons_zero, List.set_cons_succ]
  refine wpAnyH_take (i := 13) rfl (by kernel_rfl) (by kernel_rfl) (by kernel_rfl) (fun _ _ _ h => h) (yieldsIf_load_mid (by rfl) 27 _ (by rfl) w2.heap.size 0 (by rfl) ts _ (fun w' hw' => Row8.below (unhide R_t) hw') Try.underlying27 (by rfl) (unhide I_t)) hS0 ?_
  simp only [List.getElem_toArray, List.getElem_cons_zero, List.getElem_cons_succ, Act.put, List.setIfInBounds_toArray, List.set_cons_zero, List.set_cons_succ]
  refine rgn.one (i := 12) _ rfl (by kernel_rfl) (by rfl) ?_
  simp only [List.getElem_toArray, List.getElem_cons_zero, List.getElem_cons_succ, Act.put, List.setIfInBounds_toArray, List.set_cons_zero, List.set_cons_succ]
  go_wp2_with fail
  refine (count_ok v hsv cs _ (VlC.below hS0 _ _ (unhide V_a))).mono ?_
  rintro e y14 ⟨rfl, g⟩
  generalize hC : wrap64 (cnt v : Nat) = C at *
  have HC := hide hC
  clear hC
  have hS0 : Gb X y14 := hS0.trans (g.mono hS0.size)
  clear g
  refine ⟨hS0, ?_⟩
  refine rgn.one (i := 14) _ rfl (by kernel_rfl) (by rfl) ?_
  simp only [List.getElem_toArray, List.getElem_cons_zero, List.getElem_cons_succ, Act.put, List.setIfInBounds_toArray, List.set_cons_zero, List.set_cons_succ]
  go_wp2_with fail
  refine (count_ok (turnV v) hst ts _ (VlC.below hS0 _ _ (unhide V_t))).mono ?_
  rintro e y15 ⟨rfl, g⟩
  rw [cnt_turn, unhide HC]
  clear HC
  have hS0 : Gb X y15 := hS0.trans (g.mono hS0.size)
  clear g
  refine ⟨hS0, ?_⟩
  refine rgn.take (i := 15) _ (.bool false) rfl (by kernel_rfl) (by kernel_rfl) (by kernel_rfl) (fun _ _ _ h => h) (by rfl) hS0 (fun w' hw' => by clear hw'; go_simp) ?_
  simp only [List.getElem_toArray, List.getElem_cons_zero, List.getElem_cons_succ, Act.put, List.setIfInBounds_toArray, List.set_cons_zero, List.set_cons_succ]
  refine rgn.take (i := 16) _ (.bool false) rfl (by kernel_rfl) (by kernel_rfl) (by kernel_rfl) (fun _ _ _ h => h) (by rfl) hS0 (fun w' hw' => by clear hw'; go_simp) ?_
  simp only [List.getElem_toArray, List.getElem_cons_zero, List.getElem_cons_succ, Act.put, List.setIfInBounds_toArray, List.set_cons_zero, List.set_cons_succ]
  refine rgn.take (i := 17) _ (.bool false) rfl (by kernel_rfl) (by kernel_rfl) (by kernel_rfl) (fun _ _ _ h => h) (by rfl) hS0 (fun w' hw' => by clear hw'; go_simp) ?_
  simp only [List.getElem_toArray, List.getElem_cons_zero, List.getElem_cons_succ, Act.put, List.setIfInBounds_toArray, List.set_cons_zero, List.set_cons_succ]
  refine wpAnyH_take (i := 18) rfl (by kernel_rfl) (by kernel_rfl) (by kernel_rfl) (fun _ _ _ h => h) (yieldsIf_load_mid (by rfl) 27 _ (by rfl) w.heap.size 0 (by rfl) cs _ (fun w' hw' => Row8.below (unhide R_a) hw') Try.underlying27 (by rfl) (unhide I_a)) hS0 ?_
  simp only [List.getElem_toArray, List.getElem_cons_zero, List.getElem_cons_succ, Act.put, List.setIfInBounds_toArray, List.set_cons_zero, List.set_cons_succ]
  refine wpAnyH_take (i := 20) rfl (by kernel_rfl) (by kernel_rfl) (by kernel_rfl) (fun _ _ _ h => h) (yieldsIf_load_mid (by rfl) 27 _ (by rfl) w2.heap.size 0 (by rfl) ts _ (fun w' hw' => Row8.below (unhide R_t) hw') Try.underlying27 (by rfl) (unhide I_t)) hS0 ?_
  simp only [List.getElem_toArray, List.getElem_cons_zero, List.getElem_cons_succ, Act.put, List.setIfInBounds_toArray, List.set_cons_zero, List.set_cons_succ]
  refine rgn.one (i := 19) _ rfl (by kernel_rfl) (by rfl) ?_
  simp only [List.getElem_toArray, List.getElem_cons_zero, List.getElem_cons_succ, Act.put, List.setIfInBounds_toArray, List.set_cons_zero, List.set_cons_succ]
  go_wp2_with fail
  refine (depth_ok v hsv cs _ (VlC.below hS0 _ _ (unhide V_a))).mono ?_
  rintro e y21 ⟨rfl, g⟩
  generalize hC : depW v = D at *
  have HC := hide hC
  clear hC
  have hS0 : Gb X y21 := hS0.trans (g.mono hS0.size)
  clear g
  refine ⟨hS0, ?_⟩
  refine rgn.one (i := 21) _ rfl (by kernel_rfl) (by rfl) ?_
  simp only [List.getElem_toArray, List.getElem_cons_zero, List.getElem_cons_succ, Act.put, List.setIfInBounds_toArray, List.set_cons_zero, List.set_cons_succ]
  go_wp2_with fail
  refine (depth_ok (turnV v) hst ts _ (VlC.below hS0 _ _ (unhide V_t))).mono ?_
  rintro e y22 ⟨rfl, g⟩
  rw [dep_turn, unhide HC]
  clear HC
  have hS0 : Gb X y22 := hS0.trans (g.mono hS0.size)
  clear g
  refine ⟨hS0, ?_⟩
  refine rgn.take (i := 22) _ (.bool false) rfl (by kernel_rfl) (by kernel_rfl) (by kernel_rfl) (fun _ _ _ h => h) (by rfl) hS0 (fun w' hw' => by clear hw'; go_simp) ?_
  simp only [List.getElem_toArray, List.getElem_cons_zero, List.getElem_cons_succ, Act.put, List.setIfInBounds_toArray, List.set_cons_zero, List.set_cons_succ]
  refine rgn.take (i := 23) _ (.bool false) rfl (by kernel_rfl) (by kernel_rfl) (by kernel_rfl) (fun _ _ _ h => h) (by rfl) hS0 (fun w' hw' => by clear hw'; go_simp) ?_
  simp only [List.getElem_toArray, List.getElem_cons_zero, List.getElem_cons_succ, Act.put, List.setIfInBounds_toArray, List.set_cons_zero, List.set_cons_succ]
  refine wpAnyH_done (by kernel_rfl) ?_ _; refine NoPanic.normal ?_
  have bY := hS0
  clear hS0
  obtain ⟨Y, eY⟩ : ∃ Y, Y = y22 := ⟨_, rfl⟩
  rw [← eY] at bY ⊢
  clear eY
  replace bY : Below X.heap.size X Y := bY
  have R_a := hide (Row8.below (unhide R_a) bY)
  have V_a := hide (VlC.below bY _ _ (unhide V_a))
  have R_b := hide (Row8.below (unhide R_b) bY)
  have V_b := hide (VlC.below bY _ _ (unhide V_b))
  have R_t := hide (Row8.below (unhide R_t) bY)
  have V_t := hide (VlC.below bY _ _ (unhide V_t))
  have BW : Below w.heap.size w Y := BW.trans (bY.mono BW.size)
  clear bY
  go_wp2_with (first
    | (refine wpList_load_mid (by rfl) 27 _ (by rfl) (w.heap.size) 0 (by rfl) cs _ (unhide R_a) Try.underlying27 (by rfl) (unhide I_a) ?_)
    | (refine wpList_load_mid (by rfl) 27 _ (by rfl) ((w.heap.size + 1)) 0 (by rfl) xs _ (unhide R_b) Try.underlying27 (by rfl) (unhide I_b) ?_))
  refine (equal_ok v x hsv hsx cs xs _ (unhide V_a) (unhide V_b)).mono ?_
  rintro e Z ⟨rfl, bG⟩
  have R_a := hide (Row8.below (unhide R_a) bG)
  have V_a := hide (VlC.below bG _ _ (unhide V_a))
  have R_b := hide (Row8.below (unhide R_b) bG)
  have V_b := hide (VlC.below bG _ _ (unhide V_b))
  have R_t := hide (Row8.below (unhide R_t) bG)
  have V_t := hide (VlC.below bG _ _ (unhide V_t))
  have BW : Below w.heap.size w Z := BW.trans (bG.mono BW.size)
  clear bG
  have HQ := hide (fun h : ordV v x = 0 => Pm.of_ord v x h)
  have HB : ∃ q : Bool, (ordV v x == 0) = q := ⟨_, rfl⟩
  obtain ⟨q, hq⟩ := HB
  rw [hq]
  have tail : ∀ Z : World, Below w.heap.size w Z → Z.rangeAt w.heap.size 0 cs → Z.rangeAt (w.heap.size + 1) 0 xs → Z.rangeAt w2.heap.size 0 ts → VlC Z v cs → VlC Z x xs → VlC Z (turnV v) ts → True := fun _ _ _ _ _ _ _ _ => trivial
  clear tail
  cases q with
  | false =>
    go_wp2_with fail
    have hS0 : Gb Z { Z with drawn := Z.drawn + 1 } := Gb.drew (Gb.refl _)
    refine wp_region_noPanic ?_
    refine wp_region_held (S := fun w' => Gb Z w') mixed ?_
    refine wpAnyH_take (i := 0) rfl (by kernel_rfl) (by kernel_rfl) (by kernel_rfl) (fun _ _ _ h => h) (yieldsIf_load_mid (by rfl) 27 _ (by rfl) w.heap.size 0 (by rfl) cs _ (fun w' hw' => Row8.below (unhide R_a) hw') Try.underlying27 (by rfl) (unhide I_a)) hS0 ?_
    simp only [List.getElem_toArray, List.getElem_cons_zero, List.getElem_cons_succ, Act.put, List.setIfInBounds_toArray, List.set_cons_zero, List.set_cons_succ]
    refine wpAnyH_take (i := 1) rfl (by kernel_rfl) (by kernel_rfl) (by kernel_rfl) (fun _ _ _ h => h) (yieldsIf_load_mid (by rfl) 27 _ (by rfl) (w.heap.size + 1) 0 (by rfl) xs _ (fun w' hw' => Row8.below (unhide R_b) hw') Try.underlying27 (by rfl) (unhide I_b)) hS0 ?_
    simp only [List.getElem_toArray, List.getElem_cons_zero, List.getElem_cons_succ, Act.put, List.setIfInBounds_toArray, List.set_cons_zero, List.set_cons_succ]
    refine wpAnyH_take (i := 3) rfl (by kernel_rfl) (by kernel_rfl) (by kernel_rfl) (fun _ _ _ h => h) (yieldsIf_load_mid (by rfl) 27 _ (by rfl) (w.heap.size + 1) 0 (by rfl) xs _ (fun w' hw' => Row8.below (unhide R_b) hw') Try.underlying27 (by rfl) (unhide I_b)) hS0 ?_
    simp only [List.getElem_toArray, List.getElem_cons_zero, List.getElem_cons_succ, Act.put, List.setIfInBounds_toArray, List.set_cons_zero, List.set_cons_succ]
    refine wpAnyH_take (i := 4) rfl (by kernel_rfl) (by kernel_rfl) (by kernel_rfl) (fun _ _ _ h => h) (yieldsIf_load_mid (by rfl) 27 _ (by rfl) w.heap.size 0 (by rfl) cs _ (fun w' hw' => Row8.below (unhide R_a) hw') Try.underlying27 (by rfl) (unhide I_a)) hS0 ?_
    simp only [List.getElem_toArray, List.getElem_cons_zero, List.getElem_cons_succ, Act.put, List.setIfInBounds_toArray, List.set_cons_zero, List.set_cons_succ]
    refine rgn.one (i := 2) _ rfl (by kernel_rfl) (by rfl) ?_
    simp only [List.getElem_toArray, List.getElem_cons_zero, List.getElem_cons_succ, Act.put, List.setIfInBounds_toArray, List.set_cons_zero, List.set_cons_succ]
    go_wp2_with fail
    refine (same_okB v x hsv hsx cs xs _ (VlC.below hS0 _ _ (unhide V_a)) (VlC.below hS0 _ _ (unhide V_b))).mono ?_
    rintro e y29 ⟨rfl, g, e1, e2⟩
    generalize hB : smB v x = sb at *
    have HB := hide hB
    clear hB e1 e2
    have hS0 : Gb Z y29 := hS0.trans (g.mono hS0.size)
    clear g
    refine ⟨hS0, ?_⟩
    refine rgn.one (i := 5) _ rfl (by kernel_rfl) (by rfl) ?_
    simp only [List.getElem_toArray, List.getElem_cons_zero, List.getElem_cons_succ, Act.put, List.setIfInBounds_toArray, List.set_cons_zero, List.set_cons_succ]
    go_wp2_with fail
    refine (same_okB x v hsx hsv xs cs _ (VlC.below hS0 _ _ (unhide V_b)) (VlC.below hS0 _ _ (unhide V_a))).mono ?_
    rintro e y30 ⟨rfl, g, e1, e2⟩
    rw [smB_symm hsv hsx, unhide HB]
    clear e1 e2
    have hS0 : Gb Z y30 := hS0.trans (g.mono hS0.size)
    clear g
    refine ⟨hS0, ?_⟩
    refine rgn.take (i := 6) _ (.bool true) rfl (by kernel_rfl) (by kernel_rfl) (by kernel_rfl) (fun _ _ _ h => h) (by rfl) hS0 (fun w' hw' => by clear hw'; cases sb <;> go_simp) ?_
    simp only [List.getElem_toArray, List.getElem_cons_zero, List.getElem_cons_succ, Act.put, List.setIfInBounds_toArray, List.set_cons_zero, List.set_cons_succ]
    refine rgn.take (i := 7) _ (.bool true) rfl (by kernel_rfl) (by kernel_rfl) (by kernel_rfl) (fun _ _ _ h => h) (by rfl) hS0 (fun w' hw' => by clear hw'; go_simp) ?_
    simp only [List.getElem_toArray, List.getElem_cons_zero, List.getElem_cons_succ, Act.put, List.setIfInBounds_toArray, List.set_cons_zero, List.set_cons_succ]
    refine wpAnyH_take (i := 8) rfl (by kernel_rfl) (by kernel_rfl) (by kernel_rfl) (fun _ _ _ h => h) (yieldsIf_load_mid (by rfl) 27 _ (by rfl) w2.heap.size 0 (by rfl) ts _ (fun w' hw' => Row8.below (unhide R_t) hw') Try.underlying27 (by rfl) (unhide I_t)) hS0 ?_
    simp only [List.getElem_toArray, List.getElem_cons_zero, List.getElem_cons_succ, Act.put, List.setIfInBounds_toArray, List.set_cons_zero, List.set_cons_succ]
    refine wpAnyH_take (i := 9) rfl (by kernel_rfl) (by kernel_rfl) (by kernel_rfl) (fun _ _ _ h => h) (yieldsIf_load_mid (by rfl) 27 _ (by rfl) (w.heap.size + 1) 0 (by rfl) xs _ (fun w' hw' => Row8.below (unhide R_b) hw') Try.underlying27 (by rfl) (unhide I_b)) hS0 ?_
    simp only [List.getElem_toArray, List.getElem_cons_zero, List.getElem_cons_succ, Act.put, List.setIfInBounds_toArray, List.set_cons_zero, List.set_cons_succ]
    refine wpAnyH_take (i := 11) rfl (by kernel_rfl) (by kernel_rfl) (by kernel_rfl) (fun _ _ _ h => h) (yieldsIf_load_mid (by rfl) 27 _ (by rfl) w.heap.size 0 (by rfl) cs _ (fun w' hw' => Row8.below (unhide R_a) hw') Try.underlying27 (by rfl) (unhide I_a)) hS0 ?_
    simp only [List.getElem_toArray, List.getElem_cons_zero, List.getElem_cons_succ, Act.put, List.setIfInBounds_toArray, List.set_cons_zero, List.set_cons_succ]
    refine wpAnyH_take (i := 12) rfl (by kernel_rfl) (by kernel_rfl) (by kernel_rfl) (fun _ _ _ h => h) (yieldsIf_load_mid (by rfl) 27 _ (by rfl) (w.heap.size + 1) 0 (by rfl) xs _ (fun w' hw' => Row8.below (unhide R_b) hw') Try.underlying27 (by rfl) (unhide I_b)) hS0 ?_
    simp only [List.getElem_toArray, List.getElem_cons_zero, List.getElem_cons_succ, Act.put, List.setIfInBounds_toArray, List.set_cons_zero, List.set_cons_succ]
    refine rgn.one (i := 10) _ rfl (by kernel_rfl) (by rfl) ?_
    simp only [List.getElem_toArray, List.getElem_cons_zero, List.getElem_cons_succ, Act.put, List.setIfInBounds_toArray, List.set_cons_zero, List.set_cons_succ]
    go_wp2_with fail
    refine (same_okB (turnV v) x hst hsx ts xs _ (VlC.below hS0 _ _ (unhide V_t)) (VlC.below hS0 _ _ (unhide V_b))).mono ?_
    rintro e y37 ⟨rfl, g, e1, e2⟩
    rw [smB_left hsv hst hsx (Pm.turn v) (unhide EA).1 (unhide EA).2, unhide HB]
    clear e1 e2
    have hS0 : Gb Z y37 := hS0.trans (g.mono hS0.size)
    clear g
    refine ⟨hS0, ?_⟩
    refine rgn.one (i := 13) _ rfl (by kernel_rfl) (by rfl) ?_
    simp only [List.getElem_toArray, List.getElem_cons_zero, List.getElem_cons_succ, Act.put, List.setIfInBounds_toArray, List.set_cons_zero, List.set_cons_succ]
    go_wp2_with fail
    refine (same_okB v x hsv hsx cs xs _ (VlC.below hS0 _ _ (unhide V_a)) (VlC.below hS0 _ _ (unhide V_b))).mono ?_
    rintro e y38 ⟨rfl, g, e1, e2⟩
    rw [unhide HB]
    clear e1 e2
    have hS0 : Gb Z y38 := hS0.trans (g.mono hS0.size)
    clear g
    refine ⟨hS0, ?_⟩
    refine rgn.take (i := 14) _ (.bool true) rfl (by kernel_rfl) (by kernel_rfl) (by kernel_rfl) (fun _ _ _ h => h) (by rfl) hS0 (fun w' hw' => by clear hw'; cases sb <;> go_simp) ?_
    simp only [List.getElem_toArray, List.getElem_cons_zero, List.getElem_cons_succ, Act.put, List.setIfInBounds_toArray, List.set_cons_zero, List.set_cons_succ]
    refine rgn.take (i := 15) _ (.bool true) rfl (by kernel_rfl) (by kernel_rfl) (by kernel_rfl) (fun _ _ _ h => h) (by rfl) hS0 (fun w' hw' => by clear hw'; go_simp) ?_
    simp only [List.getElem_toArray, List.getElem_cons_zero, List.getElem_cons_succ, Act.put, List.setIfInBounds_toArray, List.set_cons_zero, List.set_cons_succ]
    refine rgn.take (i := 16) _ (.bool true) rfl (by kernel_rfl) (by kernel_rfl) (by kernel_rfl) (fun _ _ _ h => h) (by rfl) hS0 (fun w' hw' => by clear hw'; go_simp) ?_
    simp only [List.getElem_toArray, List.getElem_cons_zero, List.getElem_cons_succ, Act.put, List.setIfInBounds_toArray, List.set_cons_zero, List.set_cons_succ]
    refine wpAnyH_done (by kernel_rfl) ?_ _; refine NoPanic.normal ?_
    have G := BW.trans (Below.mono hS0 BW.size)
    go_wp2
    go_ret
    exact ⟨rfl, G⟩
  | true =>
    have h0 : ordV v x = 0 := by simpa using hq
    go_wp2_with (first
      | (refine wpList_loadG (by rfl) 27 _ (by rfl) (w.heap.size) 0 (by rfl) cs _ (unhide R_a) Try.underlying27 (by rfl) (unhide I_a) ?_)
      | (refine wpList_loadG (by rfl) 27 _ (by rfl) ((w.heap.size + 1)) 0 (by rfl) xs _ (unhide R_b) Try.underlying27 (by rfl) (unhide I_b) ?_))
    refine (same_okB v x hsv hsx cs xs _ (unhide V_a) (unhide V_b)).mono ?_
    rintro e Z2 ⟨rfl, bG, e1, e2⟩
    rw [smB_pm hsv hsx (Pm.of_ord v x h0) e1 e2]
    clear e1 e2 h0
    have R_a := hide (Row8.below (unhide R_a) bG)
    have V_a := hide (VlC.below bG _ _ (unhide V_a))
    have R_b := hide (Row8.below (unhide R_b) bG)
    have V_b := hide (VlC.below bG _ _ (unhide V_b))
    have R_t := hide (Row8.below (unhide R_t) bG)
    have V_t := hide (VlC.below bG _ _ (unhide V_t))
    have BW : Below w.heap.size w Z2 := BW.trans (bG.mono BW.size)
    clear bG
    go_wp2_with fail
    have hS0 : Gb Z2 { Z2 with drawn := Z2.drawn + 1 } := Gb.drew (Gb.refl _)
    refine wp_region_noPanic ?_
    refine wp_region_held (S := fun w' => Gb Z2 w') mixed ?_
    refine wpAnyH_take (i := 0) rfl (by kernel_rfl) (by kernel_rfl) (by kernel_rfl) (fun _ _ _ h => h) (yieldsIf_load_mid (by rfl) 27 _ (by rfl) w.heap.size 0 (by rfl) cs _ (fun w' hw' => Row8.below (unhide R_a) hw') Try.underlying27 (by rfl) (unhide I_a)) hS0 ?_
    simp only [List.getElem_toArray, List.getElem_cons_zero, List.getElem_cons_succ, Act.put, List.setIfInBounds_toArray, List.set_cons_zero, List.set_cons_succ]
    refine wpAnyH_take (i := 1) rfl (by kernel_rfl) (by kernel_rfl) (by kernel_rfl) (fun _ _ _ h => h) (yieldsIf_load_mid (by rfl) 27 _ (by rfl) (w.heap.size + 1) 0 (by rfl) xs _ (fun w' hw' => Row8.below (unhide R_b) hw') Try.underlying27 (by rfl) (unhide I_b)) hS0 ?_
    simp only [List.getElem_toArray, List.getElem_cons_zero, List.getElem_cons_succ, Act.put, List.setIfInBounds_toArray, List.set_cons_zero, List.set_cons_succ]
    refine wpAnyH_take (i := 3) rfl (by kernel_rfl) (by kernel_rfl) (by kernel_rfl) (fun _ _ _ h => h) (yieldsIf_load_mid (by rfl) 27 _ (by rfl) (w.heap.size + 1) 0 (by rfl) xs _ (fun w' hw' => Row8.below (unhide R_b) hw') Try.underlying27 (by rfl) (unhide I_b)) hS0 ?_
    simp only [List.getElem_toArray, List.getElem_cons_zero, List.getElem_cons_succ, Act.put, List.setIfInBounds_toArray, List.set_cons_zero, List.set_cons_succ]
    refine wpAnyH_take (i := 4) rfl (by kernel_rfl) (by kernel_rfl) (by kernel_rfl) (fun _ _ _ h => h) (yieldsIf_load_mid (by rfl) 27 _ (by rfl) w.heap.size 0 (by rfl) cs _ (fun w' hw' => Row8.below (unhide R_a) hw') Try.underlying27 (by rfl) (unhide I_a)) hS0 ?_
    simp only [List.getElem_toArray, List.getElem_cons_zero, List.getElem_cons_succ, Act.put, List.setIfInBounds_toArray, List.set_cons_zero, List.set_cons_succ]
    refine rgn.one (i := 2) _ rfl (by kernel_rfl) (by rfl) ?_
    simp only [List.getElem_toArray, List.getElem_cons_zero, List.getElem_cons_succ, Act.put, List.setIfInBounds_toArray, List.set_cons_zero, List.set_cons_succ]
    go_wp2_with fail
    refine (same_okB v x hsv hsx cs xs _ (VlC.below hS0 _ _ (unhide V_a)) (VlC.below hS0 _ _ (unhide V_b))).mono ?_
    rintro e y46 ⟨rfl, g, e1, e2⟩
    generalize hB : smB v x = sb at *
    have HB := hide hB
    clear hB e1 e2
    have hS0 : Gb Z2 y46 := hS0.trans (g.mono hS0.size)
    clear g
    refine ⟨hS0, ?_⟩
    refine rgn.one (i := 5) _ rfl (by kernel_rfl) (by rfl) ?_
    simp only [List.getElem_toArray, List.getElem_cons_zero, List.getElem_cons_succ, Act.put, List.setIfInBounds_toArray, List.set_cons_zero, List.set_cons_succ]
    go_wp2_with fail
    refine (same_okB x v hsx hsv xs cs _ (VlC.below hS0 _ _ (unhide V_b)) (VlC.below hS0 _ _ (unhide V_a))).mono ?_
    rintro e y47 ⟨rfl, g, e1, e2⟩
    rw [smB_symm hsv hsx, unhide HB]
    clear e1 e2
    have hS0 : Gb Z2 y47 := hS0.trans (g.mono hS0.size)
    clear g
    refine ⟨hS0, ?_⟩
    refine rgn.take (i := 6) _ (.bool true) rfl (by kernel_rfl) (by kernel_rfl) (by kernel_rfl) (fun _ _ _ h => h) (by rfl) hS0 (fun w' hw' => by clear hw'; cases sb <;> go_simp) ?_
    simp only [List.getElem_toArray, List.getElem_cons_zero, List.getElem_cons_succ, Act.put, List.setIfInBounds_toArray, List.set_cons_zero, List.set_cons_succ]
    refine rgn.take (i := 7) _ (.bool true) rfl (by kernel_rfl) (by kernel_rfl) (by kernel_rfl) (fun _ _ _ h => h) (by rfl) hS0 (fun w' hw' => by clear hw'; go_simp) ?_
    simp only [List.getElem_toArray, List.getElem_cons_zero, List.getElem_cons_succ, Act.put, List.setIfInBounds_toArray, List.set_cons_zero, List.set_cons_succ]
    refine wpAnyH_take (i := 8) rfl (by kernel_rfl) (by kernel_rfl) (by kernel_rfl) (fun _ _ _ h => h) (yieldsIf_load_mid (by rfl) 27 _ (by rfl) w2.heap.size 0 (by rfl) ts _ (fun w' hw' => Row8.below (unhide R_t) hw') Try.underlying27 (by rfl) (unhide I_t)) hS0 ?_
    simp only [List.getElem_toArray, List.getElem_cons_zero, List.getElem_cons_succ, Act.put, List.setIfInBounds_toArray, List.set_cons_zero, List.set_cons_succ]
    refine wpAnyH_take (i := 9) rfl (by kernel_rfl) (by kernel_rfl) (by kernel_rfl) (fun _ _ _ h => h) (yieldsIf_load_mid (by rfl) 27 _ (by rfl) (w.heap.size + 1) 0 (by rfl) xs _ (fun w' hw' => Row8.below (unhide R_b) hw') Try.underlying27 (by rfl) (unhide I_b)) hS0 ?_
    simp only [List.getElem_toArray, List.getElem_cons_zero, List.getElem_cons_succ, Act.put, List.setIfInBounds_toArray, List.set_cons_zero, List.set_cons_succ]
    refine wpAnyH_take (i := 11) rfl (by kernel_rfl) (by kernel_rfl) (by kernel_rfl) (fun _ _ _ h => h) (yieldsIf_load_mid (by rfl) 27 _ (by rfl) w.heap.size 0 (by rfl) cs _ (fun w' hw' => Row8.below (unhide R_a) hw') Try.underlying27 (by rfl) (unhide I_a)) hS0 ?_
    simp only [List.getElem_toArray, List.getElem_cons_zero, List.getElem_cons_succ, Act.put, List.setIfInBounds_toArray, List.set_cons_zero, List.set_cons_succ]
    refine wpAnyH_take (i := 12) rfl (by kernel_rfl) (by kernel_rfl) (by kernel_rfl) (fun _ _ _ h => h) (yieldsIf_load_mid (by rfl) 27 _ (by rfl) (w.heap.size + 1) 0 (by rfl) xs _ (fun w' hw' => Row8.below (unhide R_b) hw') Try.underlying27 (by rfl) (unhide I_b)) hS0 ?_
    simp only [List.getElem_toArray, List.getElem_cons_zero, List.getElem_cons_succ, Act.put, List.setIfInBounds_toArray, List.set_cons_zero, List.set_cons_succ]
    refine rgn.one (i := 10) _ rfl (by kernel_rfl) (by rfl) ?_
    simp only [List.getElem_toArray, List.getElem_cons_zero, List.getElem_cons_succ, Act.put, List.setIfInBounds_toArray, List.set_cons_zero, List.set_cons_succ]
    go_wp2_with fail
    refine (same_okB (turnV v) x hst hsx ts xs _ (VlC.below hS0 _ _ (unhide V_t)) (VlC.below hS0 _ _ (unhide V_b))).mono ?_
    rintro e y54 ⟨rfl, g, e1, e2⟩
    rw [smB_left hsv hst hsx (Pm.turn v) (unhide EA).1 (unhide EA).2, unhide HB]
    clear e1 e2
    have hS0 : Gb Z2 y54 := hS0.trans (g.mono hS0.size)
    clear g
    refine ⟨hS0, ?_⟩
    refine rgn.one (i := 13) _ rfl (by kernel_rfl) (by rfl) ?_
    simp only [List.getElem_toArray, List.getElem_cons_zero, List.getElem_cons_succ, Act.put, List.setIfInBounds_toArray, List.set_cons_zero, List.set_cons_succ]
    go_wp2_with fail
    refine (same_okB v x hsv hsx cs xs _ (VlC.below hS0 _ _ (unhide V_a)) (VlC.below hS0 _ _ (unhide V_b))).mono ?_
    rintro e y55 ⟨rfl, g, e1, e2⟩
    rw [unhide HB]
    clear e1 e2
    have hS0 : Gb Z2 y55 := hS0.trans (g.mono hS0.size)
    clear g
    refine ⟨hS0, ?_⟩
    refine rgn.take (i := 14) _ (.bool true) rfl (by kernel_rfl) (by kernel_rfl) (by kernel_rfl) (fun _ _ _ h => h) (by rfl) hS0 (fun w' hw' => by clear hw'; cases sb <;> go_simp) ?_
    simp only [List.getElem_toArray, List.getElem_cons_zero, List.getElem_cons_succ, Act.put, List.setIfInBounds_toArray, List.set_cons_zero, List.set_cons_succ]
    refine rgn.take (i := 15) _ (.bool true) rfl (by kernel_rfl) (by kernel_rfl) (by kernel_rfl) (fun _ _ _ h => h) (by rfl) hS0 (fun w' hw' => by clear hw'; go_simp) ?_
    simp only [List.getElem_toArray, List.getElem_cons_zero, List.getElem_cons_succ, Act.put, List.setIfInBounds_toArray, List.set_cons_zero, List.set_cons_succ]
    refine rgn.take (i := 16) _ (.bool true) rfl (by kernel_rfl) (by kernel_rfl) (by kernel_rfl) (fun _ _ _ h => h) (by rfl) hS0 (fun w' hw' => by clear hw'; go_simp) ?_
    simp only [List.getElem_toArray, List.getElem_cons_zero, List.getElem_cons_succ, Act.put, List.setIfInBounds_toArray, List.set_cons_zero, List.set_cons_succ]
    refine wpAnyH_done (by kernel_rfl) ?_ _; refine NoPanic.normal ?_
    have G := BW.trans (Below.mono hS0 BW.size)
    go_wp2
    go_ret
    exact ⟨rfl, G⟩
end Go.Proofs.Ytiblkdedbimggaa.og
