import Derived.Test.YtiblkdedbimggaaTsg5
import Derived.Test.YtiblkdedbimggaaTsg4
import Derived.RangeFuncNested
import Derived.RangeFuncBound
import Derived.RangeFuncCalls
import Derived.RangeFuncLeaves
import Derived.Shelf.Abstract
import Derived.Shelf.RegionOpen
import Derived.OwnWalkIn
import Derived.TacticsInMore
import Derived.LoopNIn
import Derived.LoopIn
import Derived.Lib.MinMax
import Derived.Test.YtiblkdedbimggaaTsg7
import Derived.Test.YtiblkdedbimggaaTsg3
import Derived.Test.YtiblkdedbimggaaTsg2
namespace Go.Proofs.Ytiblkdedbimggaa.og
open Go.ChangeShapes Go.WideShapes Go.ChangeAt Go.RowKit Go.Shelf
open vl hiding cB cFl cS cF cI cK cIt
open stp (c3 c3_lt c3_gt c3_eq cB cB_tri St)
attribute [local go_sem] Oper.semAt_some
set_option linter.unusedVariables false
set_option linter.unusedSimpArgs false
/-- a value's children, each with the step to it -/
def kids : Vl → List (St × Vl)
  | .mk kd _ _ _ _ _ its fls => if kd = 5 then its.list.zipIdx.map (fun p => (⟨⟨#[]⟩, (p.2 : Int), true⟩, p.1)) else if kd = 6 then fls.list.map (fun q => (⟨q.1, 0, false⟩, q.2)) else []
/-- a child as it is handed to yield: it can be read in w0 -/
def Kid (w0 : World) (ks : List (St × Vl)) : Type := { x : St × Vl × List Value // VlC w0 x.2.1 x.2.2 ∧ (x.1, x.2.1) ∈ ks }
def Kid.sv {w0 : World} {ks : List (St × Vl)} (x : Kid w0 ks) : St × Vl := (x.1.1, x.1.2.1)
def Kid.enc {w0 : World} {ks : List (St × Vl)} (x : Kid w0 ks) : Array Value := #[.agg #[.string x.1.1.nm, .int .i64 x.1.1.ix, .bool x.1.1.it], .agg x.1.2.2.toArray]
theorem take_map_snoc {w0 : World} {ks l : List (St × Vl)} {pre : List (Kid w0 ks)} {k : Nat} {x : Kid w0 ks} (h : pre.map Kid.sv = l.take k) (hx : l[k]? = some x.sv) : (pre ++ [x]).map Kid.sv = l.take (k + 1) := by
  rw [List.map_append, h, List.take_add_one, hx]
  rfl
theorem pre_len {w0 : World} {ks l : List (St × Vl)} {pre : List (Kid w0 ks)} {k : Nat} (h : pre.map Kid.sv = l.take k) (hk : k < l.length) : pre.length < l.length := by
  have := congrArg List.length h
  simp at this
  omega
theorem kids_list (b : Bool) (n : Int) (f : Nat) (tx ty : ByteArray) (its : Vls) (fls : Fls) : kids (.mk 5 b n f tx ty its fls) = its.list.zipIdx.map (fun p => (⟨⟨#[]⟩, (p.2 : Int), true⟩, p.1)) := by simp [kids]
theorem kids_obj (b : Bool) (n : Int) (f : Nat) (tx ty : ByteArray) (its : Vls) (fls : Fls) : kids (.mk 6 b n f tx ty its fls) = fls.list.map (fun q => (⟨q.1, 0, false⟩, q.2)) := by simp [kids]
theorem kids_none {kd : Int} (h5 : kd ≠ 5) (h6 : kd ≠ 6) (b : Bool) (n : Int) (f : Nat) (tx ty : ByteArray) (its : Vls) (fls : Fls) : kids (.mk kd b n f tx ty its fls) = [] := by simp [kids, h5, h6]
theorem keepC' {w w' : World} {b o : Nat} {u : Value} (h : Below w.heap.size w w') (hc : w.cell? ⟨b, o, none⟩ = some u) : w'.cell? ⟨b, o, none⟩ = some u := keepC h (World.block_lt_of_cell? w _ hc) hc
theorem children_in (F : Fence) (n : Nat) (hF : F.fn 31) (hro : F.round = none) (cs : List Value) (w : World) :
    CallsIn F n Try.prog 31 #[.agg cs.toArray] w fun e w' => e = .returned (.func (.func 56) #[] #[.pointer (some ⟨w.heap.size, 0, none⟩)]) ∧ w' = w.alloc (.cells cs.toArray 27) := by
  refine callsIn_of_wp Try.func31 rfl hF ?_ hro
  simp only [Try.ntmps31, List.size_toArray, List.length_cons, List.length_nil, Nat.reduceAdd, Nat.reduceSub, Array.replicate_succ, Array.replicate_zero, List.push_toArray, List.append_toArray, List.nil_append, List.cons_append]
  gi_wp2
  go_ret
  exact ⟨rfl, rfl⟩
set_option maxRecDepth 100000 in
set_option maxHeartbeats 4000000 in
theorem kids1_in (F : Fence) (n : Nat) (hF : F.fn 56) (hro : F.round = none) (hn : 1 ≤ n) (l Bv : Nat) (w0 : World) (v : Vl) (cs : List Value) (hv : VlC w0 v cs) (hsm : Small v) (ks : List (St × Vl)) (hks : kids v = ks) (J Jx : List (Kid w0 ks) → World → Prop)
    (B : Nat) (hJ : AbidesFrom B J) (hY : ∀ pre x W, J pre W → pre.length < ks.length → YieldAt F (n - 1) Try.prog l (Kid.enc x) W fun e W' =>
      (e = .returned (.bool true) ∧ J (pre ++ [x]) W' ∧ Below w0.heap.size W W') ∨ (e = .returned (.bool false) ∧ Jx (pre ++ [x]) W'))
    (W : World) (h0W : Below w0.heap.size w0 W) (hr : W.rangeAt Bv 0 cs) (h0 : J [] W) :
    CallsIn F n Try.prog 56 #[.func (.yield l) #[] #[], .pointer (some ⟨Bv, 0, none⟩)] W fun e W' => (∃ v, e = .returned v) ∧
      ((∃ xs : List (Kid w0 ks), xs.map Kid.sv = ks ∧ J xs W') ∨ (∃ pre : List (Kid w0 ks), (∃ k, k ≤ ks.length ∧ pre.map Kid.sv = ks.take k) ∧ Jx pre W')) := by
  obtain ⟨kd, b, m, f, tx, ty, its, fls⟩ := v
  unfold VlC at hv
  obtain ⟨ai, ni, ci, af, nf, cf, rfl, hI, hFl, hni, hnf, -, -, -, -, -, -, hci, hcf⟩ := hv
  unfold Small at hsm
  obtain ⟨hlI, hlF, -⟩ := hsm
  have bI : ni ≤ 1256584717458 := by rw [← VlsAt.len its _ _ hI]; exact hlI
  have bF : nf ≤ 1099511627776 := by rw [← FlsAt.len fls _ _ hFl]; exact hlF
  clear hlI hlF hni hnf hci hcf
  have x0 : W.cell? ⟨Bv, 0, none⟩ = some (.int .i64 kd) := hr 0 _ rfl
  have x6 : W.cell? ⟨Bv, 6, none⟩ = some (.slice ai ni ci) := hr 6 _ rfl
  have x7 : W.cell? ⟨Bv, 7, none⟩ = some (.slice af nf cf) := hr 7 _ rfl
  clear hr
  refine callsIn_of_wp Try.func56 rfl hF ?_ hro
  simp only [Try.ntmps56, List.size_toArray, List.length_cons, List.length_nil, Nat.reduceAdd, Nat.reduceSub, Array.replicate_succ, Array.replicate_zero, List.push_toArray, List.append_toArray, List.nil_append, List.cons_append]
  by_cases h5 : kd = 5
  · subst h5
    have hkl := VlsAt.len its _ _ hI
    have KL := hide (show ks.length = ni by rw [← hks, kids_list]; simp [hkl])
    have KK := hide (show ∀ (k : Nat) (u : Vl), its.list[k]? = some u → ks[k]? = some (⟨⟨#[]⟩, (k : Int), true⟩, u) from fun k u hu => by rw [← hks, kids_list]; simp [List.getElem?_zipIdx, hu])
    clear hkl hks
    gi_wp2
    gi_loopw [14] (fun i wr => ∃ (k : Nat) (pre : List (Kid w0 ks)), k ≤ ni ∧ i = .int .i64 k ∧ vl.Hid (pre.map Kid.sv = ks.take k) ∧ J pre wr ∧ Below w0.heap.size w0 wr) (fun i _ => ni - (intOf i).toNat)
    case atStart => exact ⟨0, [], Nat.zero_le _, rfl, hide (by simp), h0, h0W⟩
    case round =>
      obtain ⟨k, pre, hk, rfl, hp, hJs, hnx⟩ := hrel
      by_cases hlt : k < ni
      · have ki : (k : Int) < (ni : Int) := by omega
        obtain ⟨p, off, u, us, rfl, hg, hrow, hu⟩ := VlsAt.get its _ _ hI k hlt
        have hu' := hu
        obtain ⟨ukd, ub, um, uf, utx, uty, uits, ufls⟩ := u
        unfold VlC at hu'
        obtain ⟨uai, uni, uci, uaf, unf, ucf, rfl, -⟩ := hu'
        obtain ⟨z0, z1, z2, z3, z4, z5, z6, z7⟩ := Row8.eight (Row8.below hrow hnx)
        clear hrow
        obtain ⟨x, hx⟩ : ∃ x : Kid w0 ks, x.1 = (⟨⟨#[]⟩, (k : Int), true⟩, .mk ukd ub um uf utx uty uits ufls, [.int .i64 ukd, .bool ub, .int .i64 um, .float .f64 uf, .string utx, .string uty, .slice uai uni uci, .slice uaf unf ucf]) := ⟨⟨_, hu, List.mem_of_getElem? (unhide KK k _ hg)⟩, rfl⟩
        have hsv : x.sv = (⟨⟨#[]⟩, (k : Int), true⟩, .mk ukd ub um uf utx uty uits ufls) := by unfold Kid.sv; rw [hx]
        have henc : x.enc = #[.agg #[.string ⟨#[]⟩, .int .i64 (k : Int), .bool true], .agg #[.int .i64 ukd, .bool ub, .int .i64 um, .float .f64 uf, .string utx, .string uty, .slice uai uni uci, .slice uaf unf ucf]] := by unfold Kid.enc; rw [hx]
        have hnext := hide (take_map_snoc (unhide hp) (by rw [hsv]; exact unhide KK k _ hg))
        obtain ⟨fn, tmps, assign, body, hy, hR⟩ := hY pre x (wr.alloc (.cells #[.int .i64 ukd, .bool ub, .int .i64 um, .float .f64 uf, .string utx, .string uty, .slice uai uni uci, .slice uaf unf ucf] 27)) (hJ _ _ _ none hJs (World.grownBy_alloc _ _ none) (fun r e => by cases e)) (pre_len (unhide hp) (by rw [unhide KL]; exact hlt))
        rw [henc] at hy
        have b3 : Below w0.heap.size w0 (wr.alloc (.cells #[.int .i64 ukd, .bool ub, .int .i64 um, .float .f64 uf, .string utx, .string uty, .slice uai uni uci, .slice uaf unf ucf] 27)) := hnx.alloc hnx.size _
        have B3 := hide b3
        have HR := hide hR
        have HG := hide hg
        clear hx hsv henc hg hu hY b3 hR x0 x6 x7
        have hsf := storeF
        gi_wp2
        clear hsf
        refine (unhide HR).mono ?_
        rintro e W3 (⟨rfl, hJ3, hk3⟩ | ⟨rfl, hJx3⟩)
        · gi_wp2
          go_roundw
          case rel => exact ⟨k + 1, _, by omega, by simp, hnext, hJ3, (unhide B3).trans hk3⟩
          case measure => simp [intOf]; omega
        · gi_wp2
          refine bodyPost_ret (results_none rfl _ _ _) rfl ?_
          exact ⟨⟨_, rfl⟩, .inr ⟨_, ⟨k + 1, by rw [unhide KL]; omega, unhide hnext⟩, hJx3⟩⟩
      · obtain rfl : k = ni := by omega
        gi_wp2
        go_end0
        refine ⟨⟨_, rfl⟩, .inl ⟨_, ?_, hJs⟩⟩
        have := unhide hp
        rwa [List.take_of_length_le (Nat.le_of_eq (unhide KL))] at this
  · by_cases h6 : kd = 6
    · subst h6
      have hkl := FlsAt.len fls _ _ hFl
      have KL := hide (show ks.length = nf by rw [← hks, kids_obj]; simp [hkl])
      have KK := hide (show ∀ (k : Nat) (nm : ByteArray) (u : Vl), fls.list[k]? = some (nm, u) → ks[k]? = some (⟨nm, 0, false⟩, u) from fun k nm u hu => by rw [← hks, kids_obj]; simp [hu])
      clear hkl hks
      gi_wp2
      gi_loopw [31] (fun i wr => ∃ (k : Nat) (pre : List (Kid w0 ks)), k ≤ nf ∧ i = .int .i64 k ∧ vl.Hid (pre.map Kid.sv = ks.take k) ∧ J pre wr ∧ Below w0.heap.size w0 wr) (fun i _ => nf - (intOf i).toNat)
      case atStart => exact ⟨0, [], Nat.zero_le _, rfl, hide (by simp), h0, h0W⟩
      case round =>
        obtain ⟨k, pre, hk, rfl, hp, hJs, hnx⟩ := hrel
        by_cases hlt : k < nf
        · have ki : (k : Int) < (nf : Int) := by omega
          obtain ⟨p, off, nm, u, us, rfl, hg, hn0, -, hrow, hu⟩ := FlsAt.get fls _ _ hFl k hlt
          have hu' := hu
          obtain ⟨ukd, ub, um, uf, utx, uty, uits, ufls⟩ := u
          unfold VlC at hu'
          obtain ⟨uai, uni, uci, uaf, unf, ucf, rfl, -⟩ := hu'
          obtain ⟨z0, z1, z2, z3, z4, z5, z6, z7⟩ := Row8.eight (Row8.below hrow hnx)
          have zn := keepC' hnx hn0
          clear hrow hn0
          obtain ⟨x, hx⟩ : ∃ x : Kid w0 ks, x.1 = (⟨nm, 0, false⟩, .mk ukd ub um uf utx uty uits ufls, [.int .i64 ukd, .bool ub, .int .i64 um, .float .f64 uf, .string utx, .string uty, .slice uai uni uci, .slice uaf unf ucf]) := ⟨⟨_, hu, List.mem_of_getElem? (unhide KK k nm _ hg)⟩, rfl⟩
          have hsv : x.sv = (⟨nm, 0, false⟩, .mk ukd ub um uf utx uty uits ufls) := by unfold Kid.sv; rw [hx]
          have henc : x.enc = #[.agg #[.string nm, .int .i64 0, .bool false], .agg #[.int .i64 ukd, .bool ub, .int .i64 um, .float .f64 uf, .string utx, .string uty, .slice uai uni uci, .slice uaf unf ucf]] := by unfold Kid.enc; rw [hx]
          have hnext := hide (take_map_snoc (unhide hp) (by rw [hsv]; exact unhide KK k nm _ hg))
          obtain ⟨fn, tmps, assign, body, hy, hR⟩ := hY pre x (wr.alloc (.cells #[.string nm, .int .i64 ukd, .bool ub, .int .i64 um, .float .f64 uf, .string utx, .string uty, .slice uai uni uci, .slice uaf unf ucf] 47)) (hJ _ _ _ none hJs (World.grownBy_alloc _ _ none) (fun r e => by cases e)) (pre_len (unhide hp) (by rw [unhide KL]; exact hlt))
          rw [henc] at hy
          have b3 : Below w0.heap.size w0 (wr.alloc (.cells #[.string nm, .int .i64 ukd, .bool ub, .int .i64 um, .float .f64 uf, .string utx, .string uty, .slice uai uni uci, .slice uaf unf ucf] 47)) := hnx.alloc hnx.size _
          have B3 := hide b3
          have HR := hide hR
          have HG := hide hg
          clear hx hsv henc hg hu hY b3 hR x0 x6 x7
          have hsf := storeF
          gi_wp2
          clear hsf
          refine (unhide HR).mono ?_
          rintro e W3 (⟨rfl, hJ3, hk3⟩ | ⟨rfl, hJx3⟩)
          · gi_wp2
            go_roundw
            case rel => exact ⟨k + 1, _, by omega, by simp, hnext, hJ3, (unhide B3).trans hk3⟩
            case measure => simp [intOf]; omega
          · gi_wp2
            refine bodyPost_ret (results_none rfl _ _ _) rfl ?_
            exact ⟨⟨_, rfl⟩, .inr ⟨_, ⟨k + 1, by rw [unhide KL]; omega, unhide hnext⟩, hJx3⟩⟩
        · obtain rfl : k = nf := by omega
          gi_wp2
          go_end0
          refine ⟨⟨_, rfl⟩, .inl ⟨_, ?_, hJs⟩⟩
          have := unhide hp
          rwa [List.take_of_length_le (Nat.le_of_eq (unhide KL))] at this
    · have hq5 : (kd == 5) = false := by simpa using h5
      have hq6 : (kd == 6) = false := by simpa using h6
      have HK := hide (hks.symm.trans (kids_none h5 h6 b m f tx ty its fls))
      gi_wp2
      go_end0
      exact ⟨⟨_, rfl⟩, .inl ⟨[], by rw [unhide HK]; rfl, h0⟩⟩
end Go.Proofs.Ytiblkdedbimggaa.og
namespace Go.Proofs.Ytiblkdedbimggaa.og
open Go.ChangeShapes Go.WideShapes Go.ChangeAt Go.RowKit Go.Shelf
open vl hiding cB cFl cS cF cI cK cIt
open stp (c3 c3_lt c3_gt c3_eq cB cB_tri St)
attribute [local go_sem] Oper.semAt_some
set_option linter.unusedVariables false
set_option linter.unusedSimpArgs false
theorem kids_stops (F : Fence) (n : Nat) (hF : F.fn 56) (hro : F.round = none) (hn : 1 ≤ n) (Bv : Nat) (w0 : World) (v : Vl) (cs : List Value) (hv : VlC w0 v cs) (hsm : Small v) (w : World) (h0w : Below w0.heap.size w0 w) (hB : Bv < w.heap.size) (hr : w.rangeAt Bv 0 cs) :
    SeqStopsK F n Try.prog 56 #[.pointer (some ⟨Bv, 0, none⟩)] (Kid.enc (w0 := w0) (ks := kids v)) (Below w0.heap.size) (fun xs => xs.map Kid.sv = kids v) (fun pre => ∃ k, k ≤ (kids v).length ∧ pre.map Kid.sv = (kids v).take k) (kids v).length w :=
  fun l J Jx W hW hJ hJx hY h0 => kids1_in F n hF hro hn l Bv w0 v cs hv hsm (kids v) rfl J Jx W.heap.size hJ hY W (h0w.trans (hW.mono h0w.size)) (Row8.below hr hW) h0
mutual
/-- how many parts -/
def cnt : Vl → Nat
  | .mk kd _ _ _ _ _ its fls => 1 + (if kd = 5 then cntI its else if kd = 6 then cntF fls else 0)
def cntI : Vls → Nat
  | .nil => 0
  | .cons v r => cnt v + cntI r
def cntF : Fls → Nat
  | .nil => 0
  | .cons _ v r => cnt v + cntF r
end
mutual
/-- how deep, as the machine counts -/
def depW : Vl → Int
  | .mk kd _ _ _ _ _ its fls => if kd = 5 then wrap64 (1 + mxI its 0) else if kd = 6 then wrap64 (1 + mxF fls 0) else 0
def mxI : Vls → Int → Int
  | .nil, a => a
  | .cons v r, a => mxI r (max a (depW v))
def mxF : Fls → Int → Int
  | .nil, a => a
  | .cons _ v r, a => mxF r (max a (depW v))
end
theorem cntI_sum : ∀ l : Vls, cntI l = (l.list.map cnt).sum
  | .nil => by simp [cntI, Vls.list]
  | .cons v r => by rw [cntI, cntI_sum r]; simp [Vls.list]
theorem cntF_sum : ∀ l : Fls, cntF l = (l.list.map (fun q => cnt q.2)).sum
  | .nil => by simp [cntF, Fls.list]
  | .cons nm v r => by rw [cntF, cntF_sum r]; simp [Fls.list]
theorem mxI_fold : ∀ (l : Vls) (a : Int), mxI l a = (l.list.map depW).foldl max a
  | .nil, a => by simp [mxI, Vls.list]
  | .cons v r, a => by rw [mxI, mxI_fold r]; simp [Vls.list]
theorem mxF_fold : ∀ (l : Fls) (a : Int), mxF l a = (l.list.map (fun q => depW q.2)).foldl max a
  | .nil, a => by simp [mxF, Fls.list]
  | .cons nm v r, a => by rw [mxF, mxF_fold r]; simp [Fls.list]
theorem zip_map {α β : Type} (g : α → β) : ∀ (l : List α) (i : Nat), (l.zipIdx i).map (fun p => g p.1) = l.map g
  | [], i => rfl
  | a :: l, i => by simp only [List.zipIdx_cons, List.map_cons]; rw [zip_map g l (i + 1)]
theorem kids_map {β : Type} (g : Vl → β) (kd : Int) (b : Bool) (n : Int) (f : Nat) (tx ty : ByteArray) (its : Vls) (fls : Fls) :
    (kids (.mk kd b n f tx ty its fls)).map (fun p => g p.2) = if kd = 5 then its.list.map g else if kd = 6 then fls.list.map (fun q => g q.2) else [] := by
  by_cases h5 : kd = 5
  · subst h5
    rw [kids_list, if_pos rfl, List.map_map]
    exact zip_map g its.list 0
  · by_cases h6 : kd = 6
    · subst h6
      rw [kids_obj, if_neg h5, if_pos rfl, List.map_map]
      rfl
    · rw [kids_none h5 h6, if_neg h5, if_neg h6]
      rfl
theorem cnt_kids (v : Vl) : cnt v = 1 + ((kids v).map (fun p => cnt p.2)).sum := by
  obtain ⟨kd, b, n, f, tx, ty, its, fls⟩ := v
  rw [kids_map, cnt, cntI_sum, cntF_sum]
  split
  · rfl
  · split <;> rfl
theorem dep_kids (kd : Int) (b : Bool) (n : Int) (f : Nat) (tx ty : ByteArray) (its : Vls) (fls : Fls) (h : kd = 5 ∨ kd = 6) : depW (.mk kd b n f tx ty its fls) = wrap64 (1 + ((kids (.mk kd b n f tx ty its fls)).map (fun p => depW p.2)).foldl max 0) := by
  rw [kids_map, depW, mxI_fold, mxF_fold]
  rcases h with rfl | rfl <;> simp
theorem mem_kids {P : Vl → Prop} {kd : Int} {b : Bool} {n : Int} {f : Nat} {tx ty : ByteArray} {its : Vls} {fls : Fls} (hI : ∀ v ∈ its.list, P v) (hF : ∀ q ∈ fls.list, P q.2) : ∀ p ∈ kids (.mk kd b n f tx ty its fls), P p.2 := by
  intro p hp
  have : P p.2 ∨ False := by
    have hm := List.mem_map_of_mem (f := fun p : St × Vl => p.2) hp
    rw [kids_map (fun v => v)] at hm
    split at hm
    · exact .inl (hI _ (by simpa using hm))
    · split at hm
      · simp only [List.mem_map] at hm
        obtain ⟨q, hq, e⟩ := hm
        exact .inl (e ▸ hF q hq)
      · simp at hm
  exact this.elim id False.elim
def CountAt (v : Vl) : Prop := ∀ (cs : List Value) (w : World), VlC w v cs → Calls Try.prog 14 #[.agg cs.toArray] w fun e w' => e = .returned (.int .i64 (wrap64 (cnt v : Nat))) ∧ Below w.heap.size w w'
theorem wrap_add (x y : Int) : wrap64 (wrap64 x + wrap64 y) = wrap64 (x + y) := by unfold wrap64; omega
theorem keepsFrom_below {B : Nat} {W W' : World} (h : Below W.heap.size W W') : KeepsFrom B W W' := ⟨h.size, fun k o _ hk _ => (h.block k (Array.getElem?_eq_some_iff.1 hk).1).trans hk⟩
theorem range_own {β : Type} (B : Nat) (f : β → List Value) (hne : ∀ s, f s ≠ []) : Own (fun s W => W.rangeAt B 0 (f s)) := fun s X Y row hs hg hrow j u hu => cell_kept (hs j u hu) hg hrow
set_option maxRecDepth 100000 in
set_option maxHeartbeats 4000000 in
theorem count_step (v : Vl) (hsm : Small v) (ih : ∀ p ∈ kids v, CountAt p.2) : CountAt v := by
  intro cs w hv
  have hc0 := hv
  obtain ⟨kd, b, m, f, tx, ty, its, fls⟩ := v
  unfold VlC at hc0
  obtain ⟨ai, ni, ci, af, nf, cf, rfl, -⟩ := hc0
  have hck := hide (cnt_kids (.mk kd b m f tx ty its fls))
  have hsf := storeF
  refine (callsIn_wide (n := 8)).1 ?_
  refine callsIn_of_wp_marks Try.func14 rfl trivial ?_ rfl
  simp only [Try.ntmps14, List.size_toArray, List.length_cons, List.length_nil, Nat.reduceAdd, Nat.reduceSub, Array.replicate_succ, Array.replicate_zero, List.push_toArray, List.append_toArray, List.nil_append, List.cons_append]
  gi_wp2_with (refine ⟨trivial, ?_⟩; gi_at_call 31; refine (children_in Fence.wide _ trivial rfl _ _).mono ?_; rintro e w' ⟨rfl, rfl⟩)
  obtain ⟨W0, hW0⟩ : ∃ W0, W0 = ((w.alloc (.cells #[Value.int IntKind.i64 kd, Value.bool b, Value.int IntKind.i64 m, Value.float FloatKind.f64 f, Value.string tx, Value.string ty, Value.slice ai ni ci, Value.slice af nf cf] 27)).alloc (.cells #[.int .i64 1] 3)).alloc (.cells #[Value.int IntKind.i64 kd, Value.bool b, Value.int IntKind.i64 m, Value.float FloatKind.f64 f, Value.string tx, Value.string ty, Value.slice ai ni ci, Value.slice af nf cf] 27) := ⟨_, rfl⟩
  have hB0 : Below w.heap.size w W0 := by rw [hW0]; exact (((Below.refl _ _).alloc (Nat.le_refl _) _).alloc (by simp) _).alloc (by simp; omega) _
  have hsz : w.heap.size + 2 < W0.heap.size := by rw [hW0]; simp
  have bN : Boxed W0 (w.heap.size + 1) 3 (.int .i64 1) := by rw [hW0]; have := (Boxed.new (w.alloc (.cells #[Value.int IntKind.i64 kd, Value.bool b, Value.int IntKind.i64 m, Value.float FloatKind.f64 f, Value.string tx, Value.string ty, Value.slice ai ni ci, Value.slice af nf cf] 27)) 3 (.int .i64 1)).alloc (.cells #[Value.int IntKind.i64 kd, Value.bool b, Value.int IntKind.i64 m, Value.float FloatKind.f64 f, Value.string tx, Value.string ty, Value.slice ai ni ci, Value.slice af nf cf] 27); simpa using this
  have rV : W0.rangeAt (w.heap.size + 1 + 1) 0 [Value.int IntKind.i64 kd, Value.bool b, Value.int IntKind.i64 m, Value.float FloatKind.f64 f, Value.string tx, Value.string ty, Value.slice ai ni ci, Value.slice af nf cf] := fun j x hx => by rw [hW0, Nat.zero_add, World.cell?_alloc_at _ _ _ _ (by simp)]; simpa using hx
  rw [← hW0]
  clear hW0
  have hsf2 := hide hsf
  clear hsf
  refine wpIn_rangeFunc_ownH (α := Kid w (kids (.mk kd b m f tx ty its fls))) rfl (by omega) (gf := 56) (lb := #[.pointer (some ⟨w.heap.size + 1 + 1, 0, none⟩)]) rfl trivial (enters_of Try.func56 (by kernel_rfl) rfl)
    (kids_stops Fence.wide (8 - 1) trivial rfl (by omega) (w.heap.size + 1 + 1) w (.mk kd b m f tx ty its fls) _ hv hsm W0 hB0 (by omega) rV) belowK_t (belowK_b (by omega)) (Below.refl _ _) (fun _ => rfl)
    (fun pre W => Boxed W (w.heap.size + 1) 3 (.int .i64 (wrap64 ((1 + ((pre.map Kid.sv).map (fun p => cnt p.2)).sum : Nat) : Int))) ∧ Below w.heap.size w W)
    (fun _ _ _ => False)
    (OwnFrom.and (Own.from (boxed_own _ _ _) _) (ownFrom_below (Nat.le_refl _) (by omega)))
    (fun _ _ _ _ _ hs _ _ => hs)
    ⟨(show Boxed W0 (w.heap.size + 1) 3 (.int .i64 (wrap64 ((1 + 0 : Nat) : Int))) by rw [show wrap64 ((1 + 0 : Nat) : Int) = 1 by unfold wrap64; omega]; exact bN), hB0⟩
    (fun x a' W => ∃ Bx, w.heap.size + 1 < Bx ∧ Bx < W.heap.size ∧ W.rangeAt Bx 0 x.1.2.2 ∧ a' = { tmps := #[.agg #[Value.int IntKind.i64 kd, Value.bool b, Value.int IntKind.i64 m, Value.float FloatKind.f64 f, Value.string tx, Value.string ty, Value.slice ai ni ci, Value.slice af nf cf], .pointer (some ⟨w.heap.size, 0, none⟩), .int .i64 0, .pointer (some ⟨w.heap.size + 1, 0, none⟩), undef, .pointer (some ⟨Bx, 0, none⟩), .agg #[Value.int IntKind.i64 kd, Value.bool b, Value.int IntKind.i64 m, Value.float FloatKind.f64 f, Value.string tx, Value.string ty, Value.slice ai ni ci, Value.slice af nf cf], .func (.func 56) #[] #[.pointer (some ⟨w.heap.size + 1 + 1, 0, none⟩)], .agg #[.string x.1.1.nm, .int .i64 x.1.1.ix, .bool x.1.1.it], .agg x.1.2.2.toArray, undef, undef, undef, undef, undef], defers := [] })
    (fun x a' _ X Y row hs hg hr => by obtain ⟨Bx, h1, h2, h3, h4⟩ := hs; exact ⟨Bx, h1, Nat.lt_of_lt_of_le h2 hg.size, fun j u hu => cell_kept (h3 j u hu) hg (fun r e => (hr r e).2), h4⟩)
    ?assign ?body ?done ?stop
  case assign =>
    rintro l pre x W K ⟨bN1, hB1⟩ hK
    obtain ⟨⟨s, u, us⟩, hu, hm⟩ := x
    have hu' : VlC w u us := hu
    obtain ⟨ukd, ub, um, uf, utx, uty, uits, ufls⟩ := u
    unfold VlC at hu'
    obtain ⟨uai, uni, uci, uaf, unf, ucf, rfl, -⟩ := hu'
    unfold Kid.enc
    have hsf := unhide hsf2
    clear ih hck hv
    gi_wp2
    refine hK _ _ ((KeepsOthers.alloc _ _).from _) ((Below.refl _ W).alloc hB1.size _) ⟨bN1.alloc _, hB1.alloc hB1.size _⟩ ⟨W.heap.size, bN1.lt, by simp, fun j x hx => ?_, rfl⟩
    rw [Nat.zero_add, World.cell?_alloc_at _ _ _ _ rfl]
    simpa using hx
  case body =>
    rintro l pre x a' W hl ⟨r, hr⟩ ⟨bN1, hB1⟩ ⟨Bx, hBx, hBl, hrow, rfl⟩ hlt
    obtain ⟨⟨s, u, us⟩, hu, hm⟩ := x
    have IH := hide (ih (s, u) hm us W.drew (VlC.below hB1.drew _ _ hu))
    have hsum := hide (show (1 + (((pre ++ [⟨(s, u, us), hu, hm⟩] : List (Kid w (kids (.mk kd b m f tx ty its fls)))).map Kid.sv).map (fun p => cnt p.2)).sum : Nat) = (1 + ((pre.map Kid.sv).map (fun p => cnt p.2)).sum) + cnt u by rw [List.map_append, List.map_append, List.sum_append]; show 1 + (_ + (cnt u + 0)) = _; omega)
    have hu' : VlC w u us := hu
    obtain ⟨ukd, ub, um, uf, utx, uty, uits, ufls⟩ := u
    unfold VlC at hu'
    obtain ⟨uai, uni, uci, uaf, unf, ucf, rfl, -⟩ := hu'
    obtain ⟨z0, z1, z2, z3, z4, z5, z6, z7⟩ := Row8.eight hrow
    simp only [Nat.zero_add] at z1 z2 z3 z4 z5 z6 z7
    generalize (1 + ((pre.map Kid.sv).map (fun p => cnt p.2)).sum : Nat) = S at *
    have cN := bN1.cell
    have fN := bN1.frozen
    have hmx : Try.prog.follows .mixedOrders = true := by kernel_rfl
    have lN := bN1.lt
    clear hrow hck ih hv
    gi_wp2
    gi_region_with_o (refine ⟨trivial, ?_⟩; gi_at_call 14; refine (CallsIn.inRound l (callsIn_wide.2 (unhide IH))).mono ?_; rintro e w2 ⟨rfl, b2⟩; have c2 : w2.cell? ⟨w.heap.size + 1, 0, none⟩ = some (.int .i64 (wrap64 (S : Int))) := (b2.cell (p := ⟨w.heap.size + 1, 0, none⟩) lN).trans cN; have f2 : w2.frozen? ⟨w.heap.size + 1, 0, none⟩ = false := (b2.frozen (p := ⟨w.heap.size + 1, 0, none⟩) lN).trans fN)
    all_goals gi_wp2
    all_goals (try go_bits)
    all_goals
      have bW2 : Below W.heap.size W w2 := (Below.refl _ _).drew.trans b2
      have bx2 : Boxed w2 (w.heap.size + 1) 3 (.int .i64 (wrap64 (S : Int))) := (bW2.block _ lN).trans bN1
      refine ⟨(keepsFrom_below bW2).trans ((KeepsOthers.setCell _ _ _).from _), (bW2.mono hB1.size).setCell (p := ⟨w.heap.size + 1, 0, none⟩) (Nat.le_succ _) _, ?_, (hB1.trans (bW2.mono hB1.size)).setCell (p := ⟨w.heap.size + 1, 0, none⟩) (Nat.le_succ _) _⟩
      rw [unhide hsum, Int.natCast_add]
      simp only [wrap_add]
      exact bx2.set _
  case done =>
    rintro D xs W hD hxs ⟨bN1, hB1⟩ hK
    have cN := bN1.cell
    gi_wp2
    refine ⟨by simp, .inl ⟨_, _, rfl, run_takeDeferred hK, ?_⟩⟩
    refine ⟨_, results_tmp rfl _ _ _, ?_, hB1.trans (belowK_b (w := w) (Nat.le_refl _) W D _ _ (by have := hB0.size; omega) hK rfl rfl)⟩
    rw [unhide hck, ← hxs]
    rfl
  case stop =>
    rintro D c pre W _ _ h _
    exact h.elim
theorem count_ok : ∀ v : Vl, Small v → CountAt v := by
  refine Vl.all ?_
  intro kd b n f tx ty its fls hI hF hsm
  have hs := hsm
  unfold Small at hs
  obtain ⟨-, -, -, hsI, hsF⟩ := hs
  exact count_step _ hsm (mem_kids (fun v hv => hI v hv (hsI.all v hv)) (fun q hq => hF q hq (hsF.all q hq)))
end Go.Proofs.Ytiblkdedbimggaa.og
namespace Go.Proofs.Ytiblkdedbimggaa.og
open Go.ChangeShapes Go.WideShapes Go.ChangeAt Go.RowKit Go.Shelf
open vl hiding cB cFl cS cF cI cK cIt
open stp (c3 c3_lt c3_gt c3_eq cB cB_tri St)
attribute [local go_sem] Oper.semAt_some
set_option linter.unusedVariables false
set_option linter.unusedSimpArgs false
def DepthAt (v : Vl) : Prop := ∀ (cs : List Value) (w : World), VlC w v cs → Calls Try.prog 15 #[.agg cs.toArray] w fun e w' => e = .returned (.int .i64 (depW v)) ∧ Below w.heap.size w w'
set_option maxRecDepth 100000 in
set_option maxHeartbeats 4000000 in
theorem depth5 (b : Bool) (m : Int) (f : Nat) (tx ty : ByteArray) (its : Vls) (fls : Fls) (hsm : Small (.mk 5 b m f tx ty its fls)) (ih : ∀ p ∈ kids (.mk 5 b m f tx ty its fls), DepthAt p.2) : DepthAt (.mk 5 b m f tx ty its fls) := by
  intro cs w hv
  have hc0 := hv
  unfold VlC at hc0
  obtain ⟨ai, ni, ci, af, nf, cf, rfl, -⟩ := hc0
  have hck := hide (dep_kids 5 b m f tx ty its fls (by omega))
  have hsf := storeF
  refine (callsIn_wide (n := 8)).1 ?_
  refine callsIn_of_wp_marks Try.func15 rfl trivial ?_ rfl
  simp only [Try.ntmps15, List.size_toArray, List.length_cons, List.length_nil, Nat.reduceAdd, Nat.reduceSub, Array.replicate_succ, Array.replicate_zero, List.push_toArray, List.append_toArray, List.nil_append, List.cons_append]
  gi_wp2_with (refine ⟨trivial, ?_⟩; gi_at_call 31; refine (children_in Fence.wide _ trivial rfl _ _).mono ?_; rintro e w' ⟨rfl, rfl⟩)
  obtain ⟨W0, hW0⟩ : ∃ W0, W0 = ((w.alloc (.cells #[Value.int IntKind.i64 5, Value.bool b, Value.int IntKind.i64 m, Value.float FloatKind.f64 f, Value.string tx, Value.string ty, Value.slice ai ni ci, Value.slice af nf cf] 27)).alloc (.cells #[.int .i64 0] 3)).alloc (.cells #[Value.int IntKind.i64 5, Value.bool b, Value.int IntKind.i64 m, Value.float FloatKind.f64 f, Value.string tx, Value.string ty, Value.slice ai ni ci, Value.slice af nf cf] 27) := ⟨_, rfl⟩
  have hB0 : Below w.heap.size w W0 := by rw [hW0]; exact (((Below.refl _ _).alloc (Nat.le_refl _) _).alloc (by simp) _).alloc (by simp; omega) _
  have hsz : w.heap.size + 2 < W0.heap.size := by rw [hW0]; simp
  have bN : Boxed W0 (w.heap.size + 1) 3 (.int .i64 0) := by rw [hW0]; have := (Boxed.new (w.alloc (.cells #[Value.int IntKind.i64 5, Value.bool b, Value.int IntKind.i64 m, Value.float FloatKind.f64 f, Value.string tx, Value.string ty, Value.slice ai ni ci, Value.slice af nf cf] 27)) 3 (.int .i64 0)).alloc (.cells #[Value.int IntKind.i64 5, Value.bool b, Value.int IntKind.i64 m, Value.float FloatKind.f64 f, Value.string tx, Value.string ty, Value.slice ai ni ci, Value.slice af nf cf] 27); simpa using this
  have rV : W0.rangeAt (w.heap.size + 1 + 1) 0 [Value.int IntKind.i64 5, Value.bool b, Value.int IntKind.i64 m, Value.float FloatKind.f64 f, Value.string tx, Value.string ty, Value.slice ai ni ci, Value.slice af nf cf] := fun j x hx => by rw [hW0, Nat.zero_add, World.cell?_alloc_at _ _ _ _ (by simp)]; simpa using hx
  rw [← hW0]
  clear hW0
  have hsf2 := hide hsf
  clear hsf
  refine wpIn_rangeFunc_ownH (α := Kid w (kids (.mk 5 b m f tx ty its fls))) rfl (by omega) (gf := 56) (lb := #[.pointer (some ⟨w.heap.size + 1 + 1, 0, none⟩)]) rfl trivial (enters_of Try.func56 (by kernel_rfl) rfl)
    (kids_stops Fence.wide (8 - 1) trivial rfl (by omega) (w.heap.size + 1 + 1) w (.mk 5 b m f tx ty its fls) _ hv hsm W0 hB0 (by omega) rV) belowK_t (belowK_b (by omega)) (Below.refl _ _) (fun _ => rfl)
    (fun pre W => Boxed W (w.heap.size + 1) 3 (.int .i64 (((pre.map Kid.sv).map (fun p => depW p.2)).foldl max 0)) ∧ Below w.heap.size w W)
    (fun _ _ _ => False)
    (OwnFrom.and (Own.from (boxed_own _ _ _) _) (ownFrom_below (Nat.le_refl _) (by omega)))
    (fun _ _ _ _ _ hs _ _ => hs)
    ⟨bN, hB0⟩
    (fun x a' W => ∃ Bx, w.heap.size + 1 < Bx ∧ Bx < W.heap.size ∧ W.rangeAt Bx 0 x.1.2.2 ∧ a' = { tmps := #[.agg #[Value.int IntKind.i64 5, Value.bool b, Value.int IntKind.i64 m, Value.float FloatKind.f64 f, Value.string tx, Value.string ty, Value.slice ai ni ci, Value.slice af nf cf], .pointer (some ⟨w.heap.size, 0, none⟩), .int .i64 0, .pointer (some ⟨w.heap.size + 1, 0, none⟩), undef, .pointer (some ⟨Bx, 0, none⟩), .pointer (some ⟨w.heap.size, 0, none⟩), .int .i64 5, .bool false, .bool false, undef, undef, undef, .bool false, .agg #[Value.int IntKind.i64 5, Value.bool b, Value.int IntKind.i64 m, Value.float FloatKind.f64 f, Value.string tx, Value.string ty, Value.slice ai ni ci, Value.slice af nf cf], .func (.func 56) #[] #[.pointer (some ⟨w.heap.size + 1 + 1, 0, none⟩)], .agg #[.string x.1.1.nm, .int .i64 x.1.1.ix, .bool x.1.1.it], .agg x.1.2.2.toArray, undef, undef, undef, undef, undef, undef], defers := [] })
    (fun x a' _ X Y row hs hg hr => by obtain ⟨Bx, h1, h2, h3, h4⟩ := hs; exact ⟨Bx, h1, Nat.lt_of_lt_of_le h2 hg.size, fun j u hu => cell_kept (h3 j u hu) hg (fun r e => (hr r e).2), h4⟩)
    ?assign ?body ?done ?stop
  case assign =>
    rintro l pre x W K ⟨bN1, hB1⟩ hK
    obtain ⟨⟨s, u, us⟩, hu, hm⟩ := x
    have hu' : VlC w u us := hu
    obtain ⟨ukd, ub, um, uf, utx, uty, uits, ufls⟩ := u
    unfold VlC at hu'
    obtain ⟨uai, uni, uci, uaf, unf, ucf, rfl, -⟩ := hu'
    unfold Kid.enc
    have hsf := unhide hsf2
    clear ih hck hv
    gi_wp2
    refine hK _ _ ((KeepsOthers.alloc _ _).from _) ((Below.refl _ W).alloc hB1.size _) ⟨bN1.alloc _, hB1.alloc hB1.size _⟩ ⟨W.heap.size, bN1.lt, by simp, fun j x hx => ?_, rfl⟩
    rw [Nat.zero_add, World.cell?_alloc_at _ _ _ _ rfl]
    simpa using hx
  case body =>
    rintro l pre x a' W hl ⟨r, hr⟩ ⟨bN1, hB1⟩ ⟨Bx, hBx, hBl, hrow, rfl⟩ hlt
    obtain ⟨⟨s, u, us⟩, hu, hm⟩ := x
    have IH := hide (ih (s, u) hm us W.drew (VlC.below hB1.drew _ _ hu))
    have hsum := hide (show (((pre ++ [⟨(s, u, us), hu, hm⟩] : List (Kid w (kids (.mk 5 b m f tx ty its fls)))).map Kid.sv).map (fun p => depW p.2)).foldl max 0 = max (((pre.map Kid.sv).map (fun p => depW p.2)).foldl max 0) (depW u) by rw [List.map_append, List.map_append, List.foldl_append]; rfl)
    have hu' : VlC w u us := hu
    obtain ⟨ukd, ub, um, uf, utx, uty, uits, ufls⟩ := u
    unfold VlC at hu'
    obtain ⟨uai, uni, uci, uaf, unf, ucf, rfl, -⟩ := hu'
    obtain ⟨z0, z1, z2, z3, z4, z5, z6, z7⟩ := Row8.eight hrow
    simp only [Nat.zero_add] at z1 z2 z3 z4 z5 z6 z7
    generalize ((pre.map Kid.sv).map (fun p => depW p.2)).foldl max 0 = S at *
    have cN := bN1.cell
    have fN := bN1.frozen
    have hmx : Try.prog.follows .mixedOrders = true := by kernel_rfl
    have lN := bN1.lt
    clear hrow hck ih hv
    gi_wp2
    gi_region_with_o (refine ⟨trivial, ?_⟩; gi_at_call 15; refine (CallsIn.inRound l (callsIn_wide.2 (unhide IH))).mono ?_; rintro e w2 ⟨rfl, b2⟩; have c2 : w2.cell? ⟨w.heap.size + 1, 0, none⟩ = some (.int .i64 S) := (b2.cell (p := ⟨w.heap.size + 1, 0, none⟩) lN).trans cN; have f2 : w2.frozen? ⟨w.heap.size + 1, 0, none⟩ = false := (b2.frozen (p := ⟨w.heap.size + 1, 0, none⟩) lN).trans fN)
    all_goals gi_wp2
    all_goals (try go_bits)
    all_goals
      have bW2 : Below W.heap.size W w2 := (Below.refl _ _).drew.trans b2
      have bx2 : Boxed w2 (w.heap.size + 1) 3 (.int .i64 S) := (bW2.block _ lN).trans bN1
      refine ⟨(keepsFrom_below bW2).trans ((KeepsOthers.setCell _ _ _).from _), (bW2.mono hB1.size).setCell (p := ⟨w.heap.size + 1, 0, none⟩) (Nat.le_succ _) _, ?_, (hB1.trans (bW2.mono hB1.size)).setCell (p := ⟨w.heap.size + 1, 0, none⟩) (Nat.le_succ _) _⟩
      rw [unhide hsum]
      exact bx2.set _
  case done =>
    rintro D xs W hD hxs ⟨bN1, hB1⟩ hK
    have cN := bN1.cell
    gi_wp2
    refine ⟨by simp, .inl ⟨_, _, rfl, run_takeDeferred hK, ?_⟩⟩
    refine ⟨_, results_tmp rfl _ _ _, ?_, hB1.trans (belowK_b (w := w) (Nat.le_refl _) W D _ _ (by have := hB0.size; omega) hK rfl rfl)⟩
    rw [unhide hck, ← hxs]
    rfl
  case stop =>
    rintro D c pre W _ _ h _
    exact h.elim
set_option maxRecDepth 100000 in
set_option maxHeartbeats 4000000 in
theorem depth6 (b : Bool) (m : Int) (f : Nat) (tx ty : ByteArray) (its : Vls) (fls : Fls) (hsm : Small (.mk 6 b m f tx ty its fls)) (ih : ∀ p ∈ kids (.mk 6 b m f tx ty its fls), DepthAt p.2) : DepthAt (.mk 6 b m f tx ty its fls) := by
  intro cs w hv
  have hc0 := hv
  unfold VlC at hc0
  obtain ⟨ai, ni, ci, af, nf, cf, rfl, -⟩ := hc0
  have hck := hide (dep_kids 6 b m f tx ty its fls (by omega))
  have hsf := storeF
  refine (callsIn_wide (n := 8)).1 ?_
  refine callsIn_of_wp_marks Try.func15 rfl trivial ?_ rfl
  simp only [Try.ntmps15, List.size_toArray, List.length_cons, List.length_nil, Nat.reduceAdd, Nat.reduceSub, Array.replicate_succ, Array.replicate_zero, List.push_toArray, List.append_toArray, List.nil_append, List.cons_append]
  gi_wp2_with (refine ⟨trivial, ?_⟩; gi_at_call 31; refine (children_in Fence.wide _ trivial rfl _ _).mono ?_; rintro e w' ⟨rfl, rfl⟩)
  obtain ⟨W0, hW0⟩ : ∃ W0, W0 = ((w.alloc (.cells #[Value.int IntKind.i64 6, Value.bool b, Value.int IntKind.i64 m, Value.float FloatKind.f64 f, Value.string tx, Value.string ty, Value.slice ai ni ci, Value.slice af nf cf] 27)).alloc (.cells #[.int .i64 0] 3)).alloc (.cells #[Value.int IntKind.i64 6, Value.bool b, Value.int IntKind.i64 m, Value.float FloatKind.f64 f, Value.string tx, Value.string ty, Value.slice ai ni ci, Value.slice af nf cf] 27) := ⟨_, rfl⟩
  have hB0 : Below w.heap.size w W0 := by rw [hW0]; exact (((Below.refl _ _).alloc (Nat.le_refl _) _).alloc (by simp) _).alloc (by simp; omega) _
  have hsz : w.heap.size + 2 < W0.heap.size := by rw [hW0]; simp
  have bN : Boxed W0 (w.heap.size + 1) 3 (.int .i64 0) := by rw [hW0]; have := (Boxed.new (w.alloc (.cells #[Value.int IntKind.i64 6, Value.bool b, Value.int IntKind.i64 m, Value.float FloatKind.f64 f, Value.string tx, Value.string ty, Value.slice ai ni ci, Value.slice af nf cf] 27)) 3 (.int .i64 0)).alloc (.cells #[Value.int IntKind.i64 6, Value.bool b, Value.int IntKind.i64 m, Value.float FloatKind.f64 f, Value.string tx, Value.string ty, Value.slice ai ni ci, Value.slice af nf cf] 27); simpa using this
  have rV : W0.rangeAt (w.heap.size + 1 + 1) 0 [Value.int IntKind.i64 6, Value.bool b, Value.int IntKind.i64 m, Value.float FloatKind.f64 f, Value.string tx, Value.string ty, Value.slice ai ni ci, Value.slice af nf cf] := fun j x hx => by rw [hW0, Nat.zero_add, World.cell?_alloc_at _ _ _ _ (by simp)]; simpa using hx
  rw [← hW0]
  clear hW0
  have hsf2 := hide hsf
  clear hsf
  refine wpIn_rangeFunc_ownH (α := Kid w (kids (.mk 6 b m f tx ty its fls))) rfl (by omega) (gf := 56) (lb := #[.pointer (some ⟨w.heap.size + 1 + 1, 0, none⟩)]) rfl trivial (enters_of Try.func56 (by kernel_rfl) rfl)
    (kids_stops Fence.wide (8 - 1) trivial rfl (by omega) (w.heap.size + 1 + 1) w (.mk 6 b m f tx ty its fls) _ hv hsm W0 hB0 (by omega) rV) belowK_t (belowK_b (by omega)) (Below.refl _ _) (fun _ => rfl)
    (fun pre W => Boxed W (w.heap.size + 1) 3 (.int .i64 (((pre.map Kid.sv).map (fun p => depW p.2)).foldl max 0)) ∧ Below w.heap.size w W)
    (fun _ _ _ => False)
    (OwnFrom.and (Own.from (boxed_own _ _ _) _) (ownFrom_below (Nat.le_refl _) (by omega)))
    (fun _ _ _ _ _ hs _ _ => hs)
    ⟨bN, hB0⟩
    (fun x a' W => ∃ Bx, w.heap.size + 1 < Bx ∧ Bx < W.heap.size ∧ W.rangeAt Bx 0 x.1.2.2 ∧ a' = { tmps := #[.agg #[Value.int IntKind.i64 6, Value.bool b, Value.int IntKind.i64 m, Value.float FloatKind.f64 f, Value.string tx, Value.string ty, Value.slice ai ni ci, Value.slice af nf cf], .pointer (some ⟨w.heap.size, 0, none⟩), .int .i64 0, .pointer (some ⟨w.heap.size + 1, 0, none⟩), undef, .pointer (some ⟨Bx, 0, none⟩), .pointer (some ⟨w.heap.size, 0, none⟩), .int .i64 6, .bool true, .bool true, .pointer (some ⟨w.heap.size, 0, none⟩), .int .i64 6, .bool false, .bool false, .agg #[Value.int IntKind.i64 6, Value.bool b, Value.int IntKind.i64 m, Value.float FloatKind.f64 f, Value.string tx, Value.string ty, Value.slice ai ni ci, Value.slice af nf cf], .func (.func 56) #[] #[.pointer (some ⟨w.heap.size + 1 + 1, 0, none⟩)], .agg #[.string x.1.1.nm, .int .i64 x.1.1.ix, .bool x.1.1.it], .agg x.1.2.2.toArray, undef, undef, undef, undef, undef, undef], defers := [] })
    (fun x a' _ X Y row hs hg hr => by obtain ⟨Bx, h1, h2, h3, h4⟩ := hs; exact ⟨Bx, h1, Nat.lt_of_lt_of_le h2 hg.size, fun j u hu => cell_kept (h3 j u hu) hg (fun r e => (hr r e).2), h4⟩)
    ?assign ?body ?done ?stop
  case assign =>
    rintro l pre x W K ⟨bN1, hB1⟩ hK
    obtain ⟨⟨s, u, us⟩, hu, hm⟩ := x
    have hu' : VlC w u us := hu
    obtain ⟨ukd, ub, um, uf, utx, uty, uits, ufls⟩ := u
    unfold VlC at hu'
    obtain ⟨uai, uni, uci, uaf, unf, ucf, rfl, -⟩ := hu'
    unfold Kid.enc
    have hsf := unhide hsf2
    clear ih hck hv
    gi_wp2
    refine hK _ _ ((KeepsOthers.alloc _ _).from _) ((Below.refl _ W).alloc hB1.size _) ⟨bN1.alloc _, hB1.alloc hB1.size _⟩ ⟨W.heap.size, bN1.lt, by simp, fun j x hx => ?_, rfl⟩
    rw [Nat.zero_add, World.cell?_alloc_at _ _ _ _ rfl]
    simpa using hx
  case body =>
    rintro l pre x a' W hl ⟨r, hr⟩ ⟨bN1, hB1⟩ ⟨Bx, hBx, hBl, hrow, rfl⟩ hlt
    obtain ⟨⟨s, u, us⟩, hu, hm⟩ := x
    have IH := hide (ih (s, u) hm us W.drew (VlC.below hB1.drew _ _ hu))
    have hsum := hide (show (((pre ++ [⟨(s, u, us), hu, hm⟩] : List (Kid w (kids (.mk 6 b m f tx ty its fls)))).map Kid.sv).map (fun p => depW p.2)).foldl max 0 = max (((pre.map Kid.sv).map (fun p => depW p.2)).foldl max 0) (depW u) by rw [List.map_append, List.map_append, List.foldl_append]; rfl)
    have hu' : VlC w u us := hu
    obtain ⟨ukd, ub, um, uf, utx, uty, uits, ufls⟩ := u
    unfold VlC at hu'
    obtain ⟨uai, uni, uci, uaf, unf, ucf, rfl, -⟩ := hu'
    obtain ⟨z0, z1, z2, z3, z4, z5, z6, z7⟩ := Row8.eight hrow
    simp only [Nat.zero_add] at z1 z2 z3 z4 z5 z6 z7
    generalize ((pre.map Kid.sv).map (fun p => depW p.2)).foldl max 0 = S at *
    have cN := bN1.cell
    have fN := bN1.frozen
    have hmx : Try.prog.follows .mixedOrders = true := by kernel_rfl
    have lN := bN1.lt
    clear hrow hck ih hv
    gi_wp2
    gi_region_with_o (refine ⟨trivial, ?_⟩; gi_at_call 15; refine (CallsIn.inRound l (callsIn_wide.2 (unhide IH))).mono ?_; rintro e w2 ⟨rfl, b2⟩; have c2 : w2.cell? ⟨w.heap.size + 1, 0, none⟩ = some (.int .i64 S) := (b2.cell (p := ⟨w.heap.size + 1, 0, none⟩) lN).trans cN; have f2 : w2.frozen? ⟨w.heap.size + 1, 0, none⟩ = false := (b2.frozen (p := ⟨w.heap.size + 1, 0, none⟩) lN).trans fN)
    all_goals gi_wp2
    all_goals (try go_bits)
    all_goals
      have bW2 : Below W.heap.size W w2 := (Below.refl _ _).drew.trans b2
      have bx2 : Boxed w2 (w.heap.size + 1) 3 (.int .i64 S) := (bW2.block _ lN).trans bN1
      refine ⟨(keepsFrom_below bW2).trans ((KeepsOthers.setCell _ _ _).from _), (bW2.mono hB1.size).setCell (p := ⟨w.heap.size + 1, 0, none⟩) (Nat.le_succ _) _, ?_, (hB1.trans (bW2.mono hB1.size)).setCell (p := ⟨w.heap.size + 1, 0, none⟩) (Nat.le_succ _) _⟩
      rw [unhide hsum]
      exact bx2.set _
  case done =>
    rintro D xs W hD hxs ⟨bN1, hB1⟩ hK
    have cN := bN1.cell
    gi_wp2
    refine ⟨by simp, .inl ⟨_, _, rfl, run_takeDeferred hK, ?_⟩⟩
    refine ⟨_, results_tmp rfl _ _ _, ?_, hB1.trans (belowK_b (w := w) (Nat.le_refl _) W D _ _ (by have := hB0.size; omega) hK rfl rfl)⟩
    rw [unhide hck, ← hxs]
    rfl
  case stop =>
    rintro D c pre W _ _ h _
    exact h.elim
theorem depth0 (kd : Int) (b : Bool) (m : Int) (f : Nat) (tx ty : ByteArray) (its : Vls) (fls : Fls) (h5 : kd ≠ 5) (h6 : kd ≠ 6) : DepthAt (.mk kd b m f tx ty its fls) := by
  intro cs w hv
  unfold VlC at hv
  obtain ⟨ai, ni, ci, af, nf, cf, rfl, -⟩ := hv
  have hd := hide (show depW (.mk kd b m f tx ty its fls) = 0 by rw [depW, if_neg h5, if_neg h6])
  have q5 : (kd != 5) = true := by simpa using h5
  have q6 : (kd != 6) = true := by simpa using h6
  go_enter Try.func15, Try.ntmps15
  go_wp2
  go_ret
  exact ⟨by rw [unhide hd]; rfl, (Below.refl _ _).alloc (Nat.le_refl _) _⟩
theorem depth_ok : ∀ v : Vl, Small v → DepthAt v := by
  refine Vl.all ?_
  intro kd b n f tx ty its fls hI hF hsm
  have hs := hsm
  unfold Small at hs
  obtain ⟨-, -, -, hsI, hsF⟩ := hs
  have ih : ∀ p ∈ kids (.mk kd b n f tx ty its fls), DepthAt p.2 := mem_kids (fun v hv => hI v hv (hsI.all v hv)) (fun q hq => hF q hq (hsF.all q hq))
  by_cases h5 : kd = 5
  · subst h5; exact depth5 _ _ _ _ _ _ _ hsm ih
  · by_cases h6 : kd = 6
    · subst h6; exact depth6 _ _ _ _ _ _ _ hsm ih
    · exact depth0 _ _ _ _ _ _ _ _ h5 h6
end Go.Proofs.Ytiblkdedbimggaa.og
namespace Go.Proofs.Ytiblkdedbimggaa.og
open Go.ChangeShapes Go.WideShapes Go.ChangeAt Go.RowKit
open vl hiding cB cFl cS cF cI cK cIt
set_option linter.unusedVariables false
set_option linter.unusedSimpArgs false
theorem two_eq : (ordV twoV twoV == 0) = true := by rw [ordV_self]; rfl
theorem two_ne : (ordV twoV (turnV twoV) == 0) = false := by kernel_rfl
theorem two_cnt : wrap64 (cnt twoV : Nat) = 6 := by
  have : cnt twoV = 6 := by kernel_rfl
  rw [this]
  unfold wrap64
  omega
theorem two_dep : depW twoV = 3 := by kernel_rfl
set_option maxHeartbeats 4000000 in
set_option maxRecDepth 6000 in
theorem known_ok (w : World) : Calls Try.prog 8 #[] w fun e w' => e = .returned (.bool true) ∧ Below w.heap.size w w' := by
  go_enter Try.func8, Try.ntmps8
  go_wp2_with fail
  refine (two_ok _).mono ?_
  rintro e w1 ⟨b1, t1, rfl, v1⟩
  generalize twoC t1 = c1 at *
  go_wp2_with fail
  refine (two_ok _).mono ?_
  rintro e w2 ⟨b2, t2, rfl, v2⟩
  generalize twoC t2 = c2 at *
  go_wp2_with fail
  refine (equal_ok twoV twoV Small.twoV Small.twoV _ _ _ (VlC.below b2 _ _ v1) v2).mono ?_
  rintro e w3 ⟨rfl, b3⟩
  rw [two_eq]
  have B3 : Below w.heap.size w w3 := (b1.trans (b2.mono b1.size)).trans (b3.mono (Nat.le_trans b1.size b2.size))
  clear b1 b2 b3 v1 v2
  go_wp2_with fail
  refine (two_ok _).mono ?_
  rintro e w4 ⟨b4, t3, rfl, v3⟩
  generalize twoC t3 = c3 at *
  go_wp2_with fail
  refine (two_ok _).mono ?_
  rintro e w5 ⟨b5, t4, rfl, v4⟩
  generalize twoC t4 = c4 at *
  go_wp2_with fail
  refine (turned_ok twoV Small.twoV (fun _ => False) c4 _ (fun b hb => hb.elim) (AvC.of _ _ v4)).mono ?_
  rintro e w6 ⟨u, d4, rfl, rfl, a4, b6⟩
  go_wp2_with fail
  refine (equal_ok twoV (turnV twoV) Small.twoV (Small.turn _ Small.twoV) _ _ _ (VlC.below b6 _ _ (VlC.below b5 _ _ v3)) (AvC.read _ _ a4)).mono ?_
  rintro e w7 ⟨rfl, b7⟩
  rw [two_ne]
  have B7 : Below w.heap.size w w7 := by
    have s4 := b4.size; have s5 := b5.size; have s6 := b6.size; have s3 := B3.size
    exact (((B3.trans (b4.mono s3)).trans (b5.mono (by omega))).trans (b6.mono (by omega))).trans (b7.mono (by omega))
  clear b4 b5 b6 b7 v3 v4 a4 B3
  go_wp2_with fail
  refine (two_ok _).mono ?_
  rintro e w8 ⟨b8, t5, rfl, v5⟩
  generalize twoC t5 = c5 at *
  go_wp2_with fail
  refine (two_ok _).mono ?_
  rintro e w9 ⟨b9, t6, rfl, v6⟩
  generalize twoC t6 = c6 at *
  go_wp2_with fail
  refine (turned_ok twoV Small.twoV (fun _ => False) c6 _ (fun b hb => hb.elim) (AvC.of _ _ v6)).mono ?_
  rintro e wa ⟨u, d6, rfl, rfl, a6, ba⟩
  go_wp2_with fail
  refine (same_ok twoV (turnV twoV) Small.twoV (Small.turn _ Small.twoV) _ _ _ (VlC.below ba _ _ (VlC.below b9 _ _ v5)) (AvC.read _ _ a6)).mono ?_
  rintro e wb ⟨v', u', h1, h2, rfl, bb⟩
  rw [show (ordV v' u' == 0) = true by rw [pm_srt twoV Small.twoV _ (Small.turn _ Small.twoV) (Pm.turn twoV) v' u' h1 h2]; rfl]
  have Bb : Below w.heap.size w wb := by
    have s4 := b8.size; have s5 := b9.size; have s6 := ba.size; have s3 := B7.size
    exact (((B7.trans (b8.mono s3)).trans (b9.mono (by omega))).trans (ba.mono (by omega))).trans (bb.mono (by omega))
  clear b8 b9 ba bb v5 v6 a6 B7 h1 h2
  go_wp2_with fail
  refine (two_ok _).mono ?_
  rintro e wc ⟨bc, t7, rfl, v7⟩
  generalize twoC t7 = c7 at *
  go_wp2_with fail
  refine (count_ok twoV Small.twoV _ _ v7).mono ?_
  rintro e wd ⟨rfl, bd⟩
  rw [two_cnt]
  have Bd : Below w.heap.size w wd := (Bb.trans (bc.mono Bb.size)).trans (bd.mono (Nat.le_trans Bb.size bc.size))
  clear bc bd Bb v7
  go_wp2_with fail
  refine (two_ok _).mono ?_
  rintro e we ⟨be, t8, rfl, v8⟩
  generalize twoC t8 = c8 at *
  go_wp2_with fail
  refine (depth_ok twoV Small.twoV _ _ v8).mono ?_
  rintro e wf ⟨rfl, bf⟩
  rw [two_dep]
  have Bf : Below w.heap.size w wf := (Bd.trans (be.mono Bd.size)).trans (bf.mono (Nat.le_trans Bd.size be.size))
  clear be bf Bd v8
  go_wp2
  go_ret
  exact ⟨rfl, Bf⟩
end Go.Proofs.Ytiblkdedbimggaa.og
namespace Go.Proofs.Ytiblkdedbimggaa.og
open Go.ChangeShapes Go.WideShapes Go.ChangeAt Go.RowKit
open vl hiding cB cFl cS cF cI cK cIt
open stp (St c3 c3_lt c3_gt cB cB_tri lexS undS)
set_option linter.unusedVariables false
set_option linter.unusedSimpArgs false
/-- the child number i -/
def atS : Vl → St → Nat → Option Vl
  | .mk _ _ _ _ _ _ its fls, s, i => if s.it = true then its.list[i]? else (fls.list[i]?).map (·.2)
theorem getS_eq (v : Vl) (s : St) : getS v s = (chI v s).bind (atS v s) := by
  obtain ⟨kd, b, n, f, tx, ty, its, fls⟩ := v
  simp only [getS]
  cases chI (.mk kd b n f tx ty its fls) s <;> rfl
theorem mod_fst {x : Vl} : ∀ (l : List (ByteArray × Vl)) (i : Nat), (l.modify i fun q => (q.1, x)).map Prod.fst = l.map Prod.fst
  | [], i => by simp
  | q :: l, 0 => by simp
  | q :: l, i + 1 => by simp [mod_fst l i]
theorem findIdx_fst (nm : ByteArray) (l : List (ByteArray × Vl)) : l.findIdx? (fun q => decide (q.1 = nm)) = (l.map Prod.fst).findIdx? (fun a => decide (a = nm)) := by
  rw [List.findIdx?_map]
  rfl
theorem chI_set (v : Vl) (s : St) (i : Nat) (x : Vl) (t : St) : chI (setS v s i x) t = chI v t := by
  obtain ⟨kd, b, n, f, tx, ty, its, fls⟩ := v
  simp only [setS]
  by_cases hs : s.it = true
  · rw [if_pos hs, chI_mk, chI_mk, Vls.list_of, List.length_set]
  · rw [if_neg hs, chI_mk, chI_mk, Fls.list_of, findIdx_fst, mod_fst, ← findIdx_fst]
theorem atS_set {v : Vl} {s : St} {i : Nat} {u : Vl} (x : Vl) (h : atS v s i = some u) : atS (setS v s i x) s i = some x := by
  obtain ⟨kd, b, n, f, tx, ty, its, fls⟩ := v
  simp only [setS, atS] at h ⊢
  by_cases hs : s.it = true
  · rw [if_pos hs] at h
    rw [if_pos hs]
    simp only [atS]
    rw [if_pos hs, Vls.list_of, List.getElem?_set_self (List.getElem?_eq_some_iff.1 h).1]
  · rw [if_neg hs, Option.map_eq_some_iff] at h
    obtain ⟨q, hq, rfl⟩ := h
    rw [if_neg hs]
    simp only [atS]
    rw [if_neg hs, Fls.list_of, List.getElem?_modify]
    simp [hq]
theorem atS_other {v : Vl} {s t : St} {i j : Nat} (x : Vl) (h : t.it = s.it → j ≠ i) : atS (setS v s i x) t j = atS v t j := by
  obtain ⟨kd, b, n, f, tx, ty, its, fls⟩ := v
  simp only [setS]
  by_cases hs : s.it = true
  · rw [if_pos hs]
    simp only [atS]
    by_cases ht : t.it = true
    · rw [if_pos ht, if_pos ht, Vls.list_of, List.getElem?_set_ne (fun e => h (ht.trans hs.symm) e.symm)]
    · rw [if_neg ht, if_neg ht]
  · rw [if_neg hs]
    simp only [atS]
    by_cases ht : t.it = true
    · rw [if_pos ht, if_pos ht]
    · have hj : j ≠ i := h (by cases hh : t.it <;> cases hg : s.it <;> simp_all)
      rw [if_neg ht, if_neg ht, Fls.list_of, List.getElem?_modify]
      have hij : ¬ i = j := fun e => hj e.symm
      simp [hij]
theorem setS_back {v : Vl} {s : St} {i : Nat} {u : Vl} (x : Vl) (h : atS v s i = some u) : setS (setS v s i x) s i u = v := by
  obtain ⟨kd, b, n, f, tx, ty, its, fls⟩ := v
  simp only [atS] at h
  simp only [setS]
  by_cases hs : s.it = true
  · rw [if_pos hs] at h
    rw [if_pos hs]
    simp only [setS]
    rw [if_pos hs, Vls.list_of, List.set_set]
    obtain ⟨hl, e⟩ := List.getElem?_eq_some_iff.1 h
    rw [← e, List.set_getElem_self, Vls.of_list]
  · rw [if_neg hs, Option.map_eq_some_iff] at h
    obtain ⟨q, hq, rfl⟩ := h
    rw [if_neg hs]
    simp only [setS]
    rw [if_neg hs, Fls.list_of]
    have : ((fls.list.modify i fun q => (q.1, x)).modify i fun p => (p.1, q.2)) = fls.list := by
      apply List.ext_getElem?
      intro k
      rw [List.getElem?_modify, List.getElem?_modify]
      by_cases hk : i = k
      · subst hk
        simp [hq]
      · simp [hk]
    rw [this, Fls.of_list]
theorem setS_self {v : Vl} {s : St} {i : Nat} {u : Vl} (h : atS v s i = some u) : setS v s i u = v := by
  have := setS_back u h
  obtain ⟨kd, b, n, f, tx, ty, its, fls⟩ := v
  simp only [atS] at h
  simp only [setS]
  by_cases hs : s.it = true
  · rw [if_pos hs] at h
    rw [if_pos hs]
    obtain ⟨hl, e⟩ := List.getElem?_eq_some_iff.1 h
    rw [← e, List.set_getElem_self, Vls.of_list]
  · rw [if_neg hs, Option.map_eq_some_iff] at h
    obtain ⟨q, hq, rfl⟩ := h
    rw [if_neg hs]
    have : (fls.list.modify i fun p => (p.1, q.2)) = fls.list := by
      apply List.ext_getElem?
      intro k
      rw [List.getElem?_modify]
      by_cases hk : i = k
      · subst hk
        simp [hq]
      · simp [hk]
    rw [this, Fls.of_list]
theorem setP_cons {v n : Vl} {s : St} {r : List St} {x : Vl} (h : setP v (s :: r) x = some n) : ∃ i u m, chI v s = some i ∧ atS v s i = some u ∧ setP u r x = some m ∧ n = setS v s i m := by
  simp only [setP] at h
  cases hc : chI v s with
  | none => rw [hc] at h; simp at h
  | some i =>
    cases hg : getS v s with
    | none => rw [hc, hg] at h; simp at h
    | some u =>
      rw [hc, hg] at h
      simp only [Option.map_eq_some_iff] at h
      obtain ⟨m, hm, rfl⟩ := h
      rw [getS_eq, hc] at hg
      exact ⟨i, u, m, rfl, hg, hm, rfl⟩
theorem getP_cons {v u : Vl} {s : St} {r : List St} (h : getP v (s :: r) = some u) : ∃ i y, chI v s = some i ∧ atS v s i = some y ∧ getP y r = some u := by
  simp only [getP] at h
  rw [getS_eq] at h
  cases hc : chI v s with
  | none => rw [hc] at h; simp at h
  | some i =>
    rw [hc] at h
    simp only [Option.bind_some] at h
    cases ha : atS v s i with
    | none => rw [ha] at h; simp at h
    | some y => rw [ha] at h; exact ⟨i, y, rfl, ha, h⟩
theorem getP_setP : ∀ {ss : List St} {v x n : Vl}, setP v ss x = some n → getP n ss = some x
  | [], v, x, n, h => by simp only [setP, Option.some.injEq] at h; rw [← h]; rfl
  | s :: r, v, x, n, h => by
    obtain ⟨i, u, m, hc, ha, hm, rfl⟩ := setP_cons h
    simp only [getP]
    rw [getS_eq, chI_set, hc]
    simp only [Option.bind_some]
    rw [atS_set m ha]
    simp only [Option.bind_some]
    exact getP_setP hm
theorem setP_back : ∀ {ss : List St} {v x n u : Vl}, setP v ss x = some n → getP v ss = some u → setP n ss u = some v
  | [], v, x, n, u, h, hg => by
    simp only [getP, Option.some.injEq] at hg
    simp only [setP, hg]
  | s :: r, v, x, n, u, h, hg => by
    obtain ⟨i, y, m, hc, ha, hm, rfl⟩ := setP_cons h
    obtain ⟨i', y', hc', ha', hg'⟩ := getP_cons hg
    obtain rfl : i = i' := Option.some.inj (hc.symm.trans hc')
    obtain rfl : y = y' := Option.some.inj (ha.symm.trans ha')
    simp only [setP]
    rw [getS_eq, chI_set, hc]
    simp only [Option.bind_some]
    rw [atS_set m ha]
    simp only
    rw [setP_back hm hg', Option.map_some, setS_back m ha]
theorem setP_self : ∀ {ss : List St} {v u : Vl}, getP v ss = some u → setP v ss u = some v
  | [], v, u, hg => by
    simp only [getP, Option.some.injEq] at hg
    simp only [setP, hg]
  | s :: r, v, u, hg => by
    obtain ⟨i, y, hc, ha, hg'⟩ := getP_cons hg
    simp only [setP]
    rw [getS_eq, hc]
    simp only [Option.bind_some]
    rw [ha]
    simp only
    rw [setP_self hg', Option.map_some, setS_self ha]
theorem und_nil (A : List St) : undS A [] = true := by simp [undS, lexS]
theorem und_cons (a b : St) (A B : List St) : undS (a :: A) (b :: B) = (decide (stp.cS a b = 0) && undS A B) := by
  unfold undS
  simp only [List.length_cons, List.take_succ_cons, lexS, Nat.add_le_add_iff_right]
  by_cases h : stp.cS a b = 0
  · simp [h]
  · simp [h]
theorem cS_alike {s t : St} (h : stp.cS s t = 0) : s.it = t.it ∧ (s.it = true → s.ix = t.ix) ∧ (s.it = false → s.nm = t.nm) := by
  unfold stp.cS at h
  cases hs : s.it <;> cases ht : t.it <;> simp [hs, ht] at h
  · refine ⟨rfl, by simp, fun _ => ?_⟩
    rcases cB_tri s.nm t.nm with ⟨h', _⟩ | ⟨_, _, e⟩ | ⟨h', _⟩
    · rw [h'] at h; omega
    · exact e
    · rw [h'] at h; omega
  · refine ⟨rfl, fun _ => ?_, by simp⟩
    unfold stp.c3 at h
    split at h
    · omega
    · split at h <;> omega
theorem chI_alike {s t : St} (v : Vl) (h : stp.cS s t = 0) : chI v s = chI v t := by
  obtain ⟨h1, h2, h3⟩ := cS_alike h
  obtain ⟨kd, b, n, f, tx, ty, its, fls⟩ := v
  rw [chI_mk, chI_mk]
  cases hs : s.it
  · rw [hs] at h1
    rw [← h1, h3 hs]
    simp only [Bool.false_eq_true, if_false]
  · rw [hs] at h1
    rw [← h1, h2 hs, if_pos rfl, if_pos rfl]
theorem chI_apart {s t : St} {v : Vl} {i j : Nat} (h : stp.cS s t ≠ 0) (hi : chI v s = some i) (hj : chI v t = some j) (hit : t.it = s.it) : j ≠ i := by
  obtain ⟨kd, b, n, f, tx, ty, its, fls⟩ := v
  rw [chI_mk] at hi hj
  intro e
  subst e
  cases hs : s.it
  · rw [hs] at hit
    rw [hs, if_neg (by simp)] at hi
    rw [hit, if_neg (by simp)] at hj
    by_cases h6 : kd = 6
    · rw [if_pos h6] at hi hj
      obtain ⟨q, hq, hq2⟩ := findIdx_get hi
      obtain ⟨q', hq', hq2'⟩ := findIdx_get hj
      obtain rfl : q = q' := Option.some.inj (hq.symm.trans hq')
      simp at hq2 hq2'
      apply h
      unfold stp.cS
      rw [hs, hit, if_neg (by simp), if_neg (by simp), ← hq2, ← hq2']
      rcases cB_tri q.1 q.1 with ⟨_, _, e⟩ | ⟨e, _⟩ | ⟨_, _, e⟩
      · exact absurd rfl e
      · exact e
      · exact absurd rfl e
    · rw [if_neg h6] at hi; cases hi
  · rw [hs] at hit
    rw [hs, if_pos rfl] at hi
    rw [hit, if_pos rfl] at hj
    split at hi
    · split at hj
      · rename_i c1 c2
        have e1 := Option.some.inj hi
        have e2 := Option.some.inj hj
        apply h
        unfold stp.cS
        rw [hs, hit, if_pos rfl, if_pos rfl]
        exact stp.c3_eq (by omega)
      · cases hj
    · cases hi
theorem atS_it {s t : St} (v : Vl) (i : Nat) (h : s.it = t.it) : atS v s i = atS v t i := by
  obtain ⟨kd, b, n, f, tx, ty, its, fls⟩ := v
  simp only [atS, h]
/-- what is set at a path changes nothing at another that is neither above nor beneath it -/
theorem getP_other : ∀ {ss tt : List St} {v x n : Vl}, setP v ss x = some n → undS ss tt = false → undS tt ss = false → getP n tt = getP v tt
  | [], tt, v, x, n, h, h1, h2 => by rw [und_nil] at h2; cases h2
  | s :: r, [], v, x, n, h, h1, h2 => by rw [und_nil] at h1; cases h1
  | s :: r, t :: q, v, x, n, h, h1, h2 => by
    obtain ⟨i, u, m, hc, ha, hm, rfl⟩ := setP_cons h
    simp only [getP]
    rw [getS_eq, getS_eq, chI_set]
    by_cases hst : stp.cS s t = 0
    · have hts : stp.cS t s = 0 := by
        obtain ⟨a1, a2, a3⟩ := cS_alike hst
        unfold stp.cS
        cases hs : s.it
        · rw [hs] at a1; rw [← a1, if_neg (by simp), if_neg (by simp), a3 hs]
          rcases cB_tri t.nm t.nm with ⟨_, _, e⟩ | ⟨e, _⟩ | ⟨_, _, e⟩
          · exact absurd rfl e
          · exact e
          · exact absurd rfl e
        · rw [hs] at a1; rw [← a1, if_pos rfl, if_pos rfl]; exact stp.c3_eq (a2 hs).symm
      rw [und_cons] at h1 h2
      simp [hst] at h1
      simp [hts] at h2
      rw [← chI_alike v hst, hc]
      simp only [Option.bind_some]
      rw [← atS_it _ _ (cS_alike hst).1, ← atS_it _ _ (cS_alike hst).1, atS_set m ha, ha]
      simp only [Option.bind_some]
      exact getP_other hm h1 h2
    · cases hj : chI v t with
      | none => rfl
      | some j =>
        simp only [Option.bind_some]
        rw [atS_other m (fun e => chI_apart hst hc hj e)]
end Go.Proofs.Ytiblkdedbimggaa.og
namespace Go.Proofs.Ytiblkdedbimggaa.og
open Go.ChangeShapes Go.WideShapes Go.ChangeAt Go.RowKit
open vl hiding cB cFl cS cF cI cK cIt
open stp (St Pth St3 undS under_any)
set_option linter.unusedVariables false
set_option linter.unusedSimpArgs false
theorem okput {v x a b : Vl} {ss : List St} {ok put : Bool} (h : if ok = true then getP v ss = some a else getP v ss = none ∧ a = z0) (k : if put = true then setP v ss x = some b else getP v ss = none ∧ b = z0) : ok = put := by
  cases ok <;> cases put
  · rfl
  · simp at h k
    rw [setP_none x h.1] at k
    cases k
  · simp at h k
    rw [k.1] at h
    cases h
  · rfl
theorem zeroV (w : World) : VlC w z0 z8 := OwC.read _ _ _ (OwC.zero w)
set_option maxHeartbeats 8000000 in
set_option maxRecDepth 6000 in
theorem law_setget (v x : Vl) (cs xs : List Value) (w : World) (hv : VlC w v cs) (hx : VlC w x xs) (hsv : Small v) (hsx : Small x) (ap : Option Addr) (n c : Nat) (ss : List St) (hp : Pth w ap n ss) (hnc : n ≤ c) (hac : ap = none → c = 0) (hcb : c ≤ 4611686018427387903)
    (ao : Option Addr) (m d : Nat) (tt : List St) (ho : Pth w ao m tt) (hmd : m ≤ d) (had : ao = none → d = 0) (hdb : d ≤ 4611686018427387903) :
    Calls Try.prog 7 #[.agg cs.toArray, .slice ap n c, .slice ao m d, .agg xs.toArray] w fun e w' => e = .returned (.bool true) ∧ Below w.heap.size w w' := by
  have I_v := hide (show (Try.prog.info? 27).map (·.size) = some cs.length by rw [hv.cells]; exact infoV)
  have I_x := hide (show (Try.prog.info? 27).map (·.size) = some xs.length by rw [hx.cells]; exact infoV)
  obtain ⟨W, eW⟩ : ∃ W, W = ((w.alloc (.cells cs.toArray 27)).alloc (.cells xs.toArray 27)) := ⟨_, rfl⟩
  have BW : Below w.heap.size w W := by rw [eW]; exact ((Below.refl _ _).alloc (Nat.le_refl _) _).alloc (by simp) _
  have R_v := hide (show W.rangeAt w.heap.size 0 cs from fun j u hu => by
    rw [Nat.zero_add, eW, World.cell?_alloc_past _ _ _ (by simp), World.cell?_alloc_at _ _ _ _ rfl]; simpa using hu)
  have R_x := hide (show W.rangeAt (w.heap.size + 1) 0 xs from fun j u hu => by
    rw [Nat.zero_add, eW, World.cell?_alloc_at _ _ _ _ (by simp)]; simpa using hu)
  have V_v := hide (VlC.below BW _ _ hv)
  have V_x := hide (VlC.below BW _ _ hx)
  have HP := hide (hp.below BW)
  have HO := hide (ho.below BW)
  have EW := hide eW
  clear eW hv hx hp ho
  go_enter Try.func7, Try.ntmps7
  go_wp2_with fail
  rw [← unhide EW]
  clear EW
  refine (known_ok W).mono ?_
  rintro e w1 ⟨rfl, bG⟩
  have R_v := hide (Row8.below (unhide R_v) bG)
  have V_v := hide (VlC.below bG _ _ (unhide V_v))
  have R_x := hide (Row8.below (unhide R_x) bG)
  have V_x := hide (VlC.below bG _ _ (unhide V_x))
  have BW : Below w.heap.size w w1 := BW.trans (bG.mono BW.size)
  have HP := hide ((unhide HP).below bG)
  have HO := hide ((unhide HO).below bG)
  clear bG
  go_wp2_with (first
    | (refine wpList_load_mid (by rfl) 27 _ (by rfl) (w.heap.size) 0 (by rfl) cs _ (unhide R_v) Try.underlying27 (by rfl) (unhide I_v) ?_))
  refine (get_ok v cs _ (unhide V_v) hsv ap n c ss (unhide HP) (by omega)).mono ?_
  rintro e w2 ⟨bG, ok, o, od, rfl, hfr, hif1⟩
  have R_v := hide (Row8.below (unhide R_v) bG)
  have V_v := hide (VlC.below bG _ _ (unhide V_v))
  have R_x := hide (Row8.below (unhide R_x) bG)
  have V_x := hide (VlC.below bG _ _ (unhide V_x))
  have BW : Below w.heap.size w w2 := BW.trans (bG.mono BW.size)
  have HP := hide ((unhide HP).below bG)
  have HO := hide ((unhide HO).below bG)
  clear bG
  have d8 := (hfr.read).cells
  have d1_old := (hfr.read).one
  have I_old := hide (show (Try.prog.info? 27).map (·.size) = some od.length by rw [d8]; exact infoV)
  have J_old := hide (show (Try.prog.info? 27).map (·.size) = some od.toArray.size by simp [d8, infoV])
  have T_old := hide (show (w2.alloc (.cells #[.int .i64 0, .bool false, .int .i64 0, .float .f64 0, .string { data := #[] }, .string { data := #[] }, .slice none 0 0, .slice none 0 0] 27)).there w2.heap.size 0 od.toArray.size from there_new (by simp [d8]))
  obtain ⟨X_old, eX⟩ : ∃ X, X = (w2.alloc (.cells #[.int .i64 0, .bool false, .int .i64 0, .float .f64 0, .string { data := #[] }, .string { data := #[] }, .slice none 0 0, .slice none 0 0] 27)).setCells w2.heap.size 0 od := ⟨_, rfl⟩
  have bX : Below w2.heap.size w2 X_old := by rw [eX]; exact below_setCells _ _ _ _ ((Below.refl _ _).alloc (Nat.le_refl _) _) (Nat.le_refl _)
  have R_old := hide (show X_old.rangeAt w2.heap.size 0 od by rw [eX]; exact World.rangeAt_setCells_same _ _ _ _ (unhide T_old))
  have V_old := hide (VlC.below bX _ _ (hfr.read))
  have E_old := hide eX
  clear eX d8
  have R_v := hide (Row8.below (unhide R_v) bX)
  have V_v := hide (VlC.below bX _ _ (unhide V_v))
  have R_x := hide (Row8.below (unhide R_x) bX)
  have V_x := hide (VlC.below bX _ _ (unhide V_x))
  have BW : Below w.heap.size w X_old := BW.trans (bX.mono BW.size)
  have HP := hide ((unhide HP).below bX)
  have HO := hide ((unhide HO).below bX)
  clear bX
  clear hfr
  have hso : Small o := by cases ok <;> simp at hif1; exact hif1.2 ▸ Small.z0; exact hsv.getP hif1
  go_wp2_with (first
    | (refine wpList_store_mid (by rfl) 27 _ _ (by rfl) w2.heap.size 0 od.toArray (by rfl) (by rfl) (unhide T_old) (unhide J_old) d1_old ?_; rw [show (w2.alloc (.cells #[.int .i64 0, .bool false, .int .i64 0, .float .f64 0, .string { data := #[] }, .string { data := #[] }, .slice none 0 0, .slice none 0 0] 27)).setCells w2.heap.size 0 od.toArray.toList = X_old from (unhide E_old).symm])
    | (refine wpList_load_mid (by rfl) 27 _ (by rfl) (w.heap.size) 0 (by rfl) cs _ (unhide R_v) Try.underlying27 (by rfl) (unhide I_v) ?_)
    | (refine wpList_load_mid (by rfl) 27 _ (by rfl) (w.heap.size + 1) 0 (by rfl) xs _ (unhide R_x) Try.underlying27 (by rfl) (unhide I_x) ?_))
  refine (set_ok v x cs xs _ (unhide V_v) (unhide V_x) hsv hsx ap n c ss (unhide HP) (by omega)).mono ?_
  rintro e w3 ⟨bG, put, q, qd, rfl, hfr, hif2⟩
  have R_v := hide (Row8.below (unhide R_v) bG)
  have V_v := hide (VlC.below bG _ _ (unhide V_v))
  have R_x := hide (Row8.below (unhide R_x) bG)
  have V_x := hide (VlC.below bG _ _ (unhide V_x))
  have R_old := hide (Row8.below (unhide R_old) bG)
  have V_old := hide (VlC.below bG _ _ (unhide V_old))
  have BW : Below w.heap.size w w3 := BW.trans (bG.mono BW.size)
  have HP := hide ((unhide HP).below bG)
  have HO := hide ((unhide HO).below bG)
  clear bG
  have d8 := (hfr.read).cells
  have d1_next := (hfr.read).one
  have I_next := hide (show (Try.prog.info? 27).map (·.size) = some qd.length by rw [d8]; exact infoV)
  have J_next := hide (show (Try.prog.info? 27).map (·.size) = some qd.toArray.size by simp [d8, infoV])
  have T_next := hide (show (w3.alloc (.cells #[.int .i64 0, .bool false, .int .i64 0, .float .f64 0, .string { data := #[] }, .string { data := #[] }, .slice none 0 0, .slice none 0 0] 27)).there w3.heap.size 0 qd.toArray.size from there_new (by simp [d8]))
  obtain ⟨X_next, eX⟩ : ∃ X, X = (w3.alloc (.cells #[.int .i64 0, .bool false, .int .i64 0, .float .f64 0, .string { data := #[] }, .string { data := #[] }, .slice none 0 0, .slice none 0 0] 27)).setCells w3.heap.size 0 qd := ⟨_, rfl⟩
  have bX : Below w3.heap.size w3 X_next := by rw [eX]; exact below_setCells _ _ _ _ ((Below.refl _ _).alloc (Nat.le_refl _) _) (Nat.le_refl _)
  have R_next := hide (show X_next.rangeAt w3.heap.size 0 qd by rw [eX]; exact World.rangeAt_setCells_same _ _ _ _ (unhide T_next))
  have V_next := hide (VlC.below bX _ _ (hfr.read))
  have E_next := hide eX
  clear eX d8
  have R_v := hide (Row8.below (unhide R_v) bX)
  have V_v := hide (VlC.below bX _ _ (unhide V_v))
  have R_x := hide (Row8.below (unhide R_x) bX)
  have V_x := hide (VlC.below bX _ _ (unhide V_x))
  have R_old := hide (Row8.below (unhide R_old) bX)
  have V_old := hide (VlC.below bX _ _ (unhide V_old))
  have BW : Below w.heap.size w X_next := BW.trans (bX.mono BW.size)
  have HP := hide ((unhide HP).below bX)
  have HO := hide ((unhide HO).below bX)
  clear bX
  clear hfr
  have hsq : Small q := by cases put <;> simp at hif2; exact hif2.2 ▸ Small.z0; exact Small.setP hsv hsx hif2
  obtain rfl := okput hif1 hif2
  have H1 := hide hif1
  have H2 := hide hif2
  clear hif1 hif2
  go_wp2_with (first
    | (refine wpList_store_mid (by rfl) 27 _ _ (by rfl) w3.heap.size 0 qd.toArray (by rfl) (by rfl) (unhide T_next) (unhide J_next) d1_next ?_; rw [show (w3.alloc (.cells #[.int .i64 0, .bool false, .int .i64 0, .float .f64 0, .string { data := #[] }, .string { data := #[] }, .slice none 0 0, .slice none 0 0] 27)).setCells w3.heap.size 0 qd.toArray.toList = X_next from (unhide E_next).symm])
    | (refine wpList_load_mid (by rfl) 27 _ (by rfl) (w.heap.size) 0 (by rfl) cs _ (unhide R_v) Try.underlying27 (by rfl) (unhide I_v) ?_))
  refine (get_ok v cs _ (unhide V_v) hsv none 0 0 [] ⟨rfl, .inl rfl⟩ (by omega)).mono ?_
  rintro e w4 ⟨bG, root, u, ud, rfl, hfr, hif3⟩
  have R_v := hide (Row8.below (unhide R_v) bG)
  have V_v := hide (VlC.below bG _ _ (unhide V_v))
  have R_x := hide (Row8.below (unhide R_x) bG)
  have V_x := hide (VlC.below bG _ _ (unhide V_x))
  have R_old := hide (Row8.below (unhide R_old) bG)
  have V_old := hide (VlC.below bG _ _ (unhide V_old))
  have R_next := hide (Row8.below (unhide R_next) bG)
  have V_next := hide (VlC.below bG _ _ (unhide V_next))
  have BW : Below w.heap.size w w4 := BW.trans (bG.mono BW.size)
  have HP := hide ((unhide HP).below bG)
  have HO := hide ((unhide HO).below bG)
  clear bG
  obtain ⟨rfl, rfl⟩ : root = true ∧ v = u := by cases root <;> simp [getP] at hif3; exact ⟨rfl, hif3⟩
  clear hif3
  have d8 := (hfr.read).cells
  have d1_whole := (hfr.read).one
  have I_whole := hide (show (Try.prog.info? 27).map (·.size) = some ud.length by rw [d8]; exact infoV)
  have J_whole := hide (show (Try.prog.info? 27).map (·.size) = some ud.toArray.size by simp [d8, infoV])
  have T_whole := hide (show (w4.alloc (.cells #[.int .i64 0, .bool false, .int .i64 0, .float .f64 0, .string { data := #[] }, .string { data := #[] }, .slice none 0 0, .slice none 0 0] 27)).there w4.heap.size 0 ud.toArray.size from there_new (by simp [d8]))
  obtain ⟨X_whole, eX⟩ : ∃ X, X = (w4.alloc (.cells #[.int .i64 0, .bool false, .int .i64 0, .float .f64 0, .string { data := #[] }, .string { data := #[] }, .slice none 0 0, .slice none 0 0] 27)).setCells w4.heap.size 0 ud := ⟨_, rfl⟩
  have bX : Below w4.heap.size w4 X_whole := by rw [eX]; exact below_setCells _ _ _ _ ((Below.refl _ _).alloc (Nat.le_refl _) _) (Nat.le_refl _)
  have R_whole := hide (show X_whole.rangeAt w4.heap.size 0 ud by rw [eX]; exact World.rangeAt_setCells_same _ _ _ _ (unhide T_whole))
  have V_whole := hide (VlC.below bX _ _ (hfr.read))
  have E_whole := hide eX
  clear eX d8
  have R_v := hide (Row8.below (unhide R_v) bX)
  have V_v := hide (VlC.below bX _ _ (unhide V_v))
  have R_x := hide (Row8.below (unhide R_x) bX)
  have V_x := hide (VlC.below bX _ _ (unhide V_x))
  have R_old := hide (Row8.below (unhide R_old) bX)
  have V_old := hide (VlC.below bX _ _ (unhide V_old))
  have R_next := hide (Row8.below (unhide R_next) bX)
  have V_next := hide (VlC.below bX _ _ (unhide V_next))
  have BW : Below w.heap.size w X_whole := BW.trans (bX.mono BW.size)
  have HP := hide ((unhide HP).below bX)
  have HO := hide ((unhide HO).below bX)
  clear bX
  clear hfr
  go_wp2_with (first
    | (refine wpList_store_mid (by rfl) 27 _ _ (by rfl) w4.heap.size 0 ud.toArray (by rfl) (by rfl) (unhide T_whole) (unhide J_whole) d1_whole ?_; rw [show (w4.alloc (.cells #[.int .i64 0, .bool false, .int .i64 0, .float .f64 0, .string { data := #[] }, .string { data := #[] }, .slice none 0 0, .slice none 0 0] 27)).setCells w4.heap.size 0 ud.toArray.toList = X_whole from (unhide E_whole).symm])
    | (refine wpList_loadG (by rfl) 27 _ (by rfl) (w4.heap.size) 0 (by rfl) ud _ (unhide R_whole) Try.underlying27 (by rfl) (unhide I_whole) ?_)
    | (refine wpList_loadG (by rfl) 27 _ (by rfl) (w.heap.size) 0 (by rfl) cs _ (unhide R_v) Try.underlying27 (by rfl) (unhide I_v) ?_))
  refine (equal_ok v v hsv hsv ud cs _ (unhide V_whole) (unhide V_v)).mono ?_
  rintro e w5 ⟨rfl, bG⟩
  rw [show (ordV v v == 0) = true by rw [ordV_self]; rfl]
  have R_v := hide (Row8.below (unhide R_v) bG)
  have V_v := hide (VlC.below bG _ _ (unhide V_v))
  have R_x := hide (Row8.below (unhide R_x) bG)
  have V_x := hide (VlC.below bG _ _ (unhide V_x))
  have R_old := hide (Row8.below (unhide R_old) bG)
  have V_old := hide (VlC.below bG _ _ (unhide V_old))
  have R_next := hide (Row8.below (unhide R_next) bG)
  have V_next := hide (VlC.below bG _ _ (unhide V_next))
  have R_whole := hide (Row8.below (unhide R_whole) bG)
  have V_whole := hide (VlC.below bG _ _ (unhide V_whole))
  have BW : Below w.heap.size w w5 := BW.trans (bG.mono BW.size)
  have HP := hide ((unhide HP).below bG)
  have HO := hide ((unhide HO).below bG)
  clear bG
  cases ok with
  | false =>
    obtain ⟨h1, rfl⟩ : getP v ss = none ∧ o = z0 := by have := unhide H1; simpa using this
    obtain ⟨h2, rfl⟩ : getP v ss = none ∧ q = z0 := by have := unhide H2; simpa using this
    have hz := fun W => zeroV W
    have ZB : ∀ w, (Instr.build 27 #[]).run Try.prog w = .ok (.agg z8.toArray) w := fun w => by simp only [z8]; go_simp
    clear hz
    go_wp2_with (first
      | (refine wpList_load_mid (by rfl) 27 _ (by rfl) (w2.heap.size) 0 (by rfl) od _ (unhide R_old) Try.underlying27 (by rfl) (unhide I_old) ?_))
    refine (equal_ok z0 z0 Small.z0 Small.z0 od z8 _ (unhide V_old) (zeroV _)).mono ?_
    rintro e w6 ⟨rfl, bG⟩
    rw [show (ordV z0 z0 == 0) = true by rw [ordV_self]; rfl]
    have R_v := hide (Row8.below (unhide R_v) bG)
    have V_v := hide (VlC.below bG _ _ (unhide V_v))
    have R_x := hide (Row8.below (unhide R_x) bG)
    have V_x := hide (VlC.below bG _ _ (unhide V_x))
    have R_old := hide (Row8.below (unhide R_old) bG)
    have V_old := hide (VlC.below bG _ _ (unhide V_old))
    have R_next := hide (Row8.below (unhide R_next) bG)
    have V_next := hide (VlC.below bG _ _ (unhide V_next))
    have R_whole := hide (Row8.below (unhide R_whole) bG)
    have V_whole := hide (VlC.below bG _ _ (unhide V_whole))
    have BW : Below w.heap.size w w6 := BW.trans (bG.mono BW.size)
    have HP := hide ((unhide HP).below bG)
    have HO := hide ((unhide HO).below bG)
    clear bG
    go_wp2_with (first
      | (refine wpList_loadG (by rfl) 27 _ (by rfl) (w3.heap.size) 0 (by rfl) qd _ (unhide R_next) Try.underlying27 (by rfl) (unhide I_next) ?_))
    refine (equal_ok z0 z0 Small.z0 Small.z0 qd z8 _ (unhide V_next) (zeroV _)).mono ?_
    rintro e w7 ⟨rfl, bG⟩
    rw [show (ordV z0 z0 == 0) = true by rw [ordV_self]; rfl]
    have R_v := hide (Row8.below (unhide R_v) bG)
    have V_v := hide (VlC.below bG _ _ (unhide V_v))
    have R_x := hide (Row8.below (unhide R_x) bG)
    have V_x := hide (VlC.below bG _ _ (unhide V_x))
    have R_old := hide (Row8.below (unhide R_old) bG)
    have V_old := hide (VlC.below bG _ _ (unhide V_old))
    have R_next := hide (Row8.below (unhide R_next) bG)
    have V_next := hide (VlC.below bG _ _ (unhide V_next))
    have R_whole := hide (Row8.below (unhide R_whole) bG)
    have V_whole := hide (VlC.below bG _ _ (unhide V_whole))
    have BW : Below w.heap.size w w7 := BW.trans (bG.mono BW.size)
    have HP := hide ((unhide HP).below bG)
    have HO := hide ((unhide HO).below bG)
    clear bG
    go_wp2
    go_ret
    exact ⟨rfl, BW⟩
  | true =>
    have h1 : getP v ss = some o := by have := unhide H1; simpa using this
    have h2 : setP v ss x = some q := by have := unhide H2; simpa using this
    have HG := hide (And.intro h1 h2)
    clear h1 h2 H1 H2
    go_wp2_with (first
      | (refine wpList_load_mid (by rfl) 27 _ (by rfl) (w3.heap.size) 0 (by rfl) qd _ (unhide R_next) Try.underlying27 (by rfl) (unhide I_next) ?_))
    refine (get_ok q qd _ (unhide V_next) hsq ap n c ss (unhide HP) (by omega)).mono ?_
    rintro e w6 ⟨bG, there, g, gd, rfl, hfr, hif4⟩
    have R_v := hide (Row8.below (unhide R_v) bG)
    have V_v := hide (VlC.below bG _ _ (unhide V_v))
    have R_x := hide (Row8.below (unhide R_x) bG)
    have V_x := hide (VlC.below bG _ _ (unhide V_x))
    have R_old := hide (Row8.below (unhide R_old) bG)
    have V_old := hide (VlC.below bG _ _ (unhide V_old))
    have R_next := hide (Row8.below (unhide R_next) bG)
    have V_next := hide (VlC.below bG _ _ (unhide V_next))
    have R_whole := hide (Row8.below (unhide R_whole) bG)
    have V_whole := hide (VlC.below bG _ _ (unhide V_whole))
    have BW : Below w.heap.size w w6 := BW.trans (bG.mono BW.size)
    have HP := hide ((unhide HP).below bG)
    have HO := hide ((unhide HO).below bG)
    clear bG
    obtain ⟨rfl, rfl⟩ : there = true ∧ x = g := by have := getP_setP (unhide HG).2; cases there <;> simp [this] at hif4; exact ⟨rfl, hif4⟩
    clear hif4
    have d8 := (hfr.read).cells
    have d1_got := (hfr.read).one
    have I_got := hide (show (Try.prog.info? 27).map (·.size) = some gd.length by rw [d8]; exact infoV)
    have J_got := hide (show (Try.prog.info? 27).map (·.size) = some gd.toArray.size by simp [d8, infoV])
    have T_got := hide (show (w6.alloc (.cells #[.int .i64 0, .bool false, .int .i64 0, .float .f64 0, .string { data := #[] }, .string { data := #[] }, .slice none 0 0, .slice none 0 0] 27)).there w6.heap.size 0 gd.toArray.size from there_new (by simp [d8]))
    obtain ⟨X_got, eX⟩ : ∃ X, X = (w6.alloc (.cells #[.int .i64 0, .bool false, .int .i64 0, .float .f64 0, .string { data := #[] }, .string { data := #[] }, .slice none 0 0, .slice none 0 0] 27)).setCells w6.heap.size 0 gd := ⟨_, rfl⟩
    have bX : Below w6.heap.size w6 X_got := by rw [eX]; exact below_setCells _ _ _ _ ((Below.refl _ _).alloc (Nat.le_refl _) _) (Nat.le_refl _)
    have R_got := hide (show X_got.rangeAt w6.heap.size 0 gd by rw [eX]; exact World.rangeAt_setCells_same _ _ _ _ (unhide T_got))
    have V_got := hide (VlC.below bX _ _ (hfr.read))
    have E_got := hide eX
    clear eX d8
    have R_v := hide (Row8.below (unhide R_v) bX)
    have V_v := hide (VlC.below bX _ _ (unhide V_v))
    have R_x := hide (Row8.below (unhide R_x) bX)
    have V_x := hide (VlC.below bX _ _ (unhide V_x))
    have R_old := hide (Row8.below (unhide R_old) bX)
    have V_old := hide (VlC.below bX _ _ (unhide V_old))
    have R_next := hide (Row8.below (unhide R_next) bX)
    have V_next := hide (VlC.below bX _ _ (unhide V_next))
    have R_whole := hide (Row8.below (unhide R_whole) bX)
    have V_whole := hide (VlC.below bX _ _ (unhide V_whole))
    have BW : Below w.heap.size w X_got := BW.trans (bX.mono BW.size)
    have HP := hide ((unhide HP).below bX)
    have HO := hide ((unhide HO).below bX)
    clear bX
    clear hfr
    go_wp2_with (first
      | (refine wpList_store_mid (by rfl) 27 _ _ (by rfl) w6.heap.size 0 gd.toArray (by rfl) (by rfl) (unhide T_got) (unhide J_got) d1_got ?_; rw [show (w6.alloc (.cells #[.int .i64 0, .bool false, .int .i64 0, .float .f64 0, .string { data := #[] }, .string { data := #[] }, .slice none 0 0, .slice none 0 0] 27)).setCells w6.heap.size 0 gd.toArray.toList = X_got from (unhide E_got).symm])
      | (refine wpList_loadG (by rfl) 27 _ (by rfl) (w6.heap.size) 0 (by rfl) gd _ (unhide R_got) Try.underlying27 (by rfl) (unhide I_got) ?_)
      | (refine wpList_loadG (by rfl) 27 _ (by rfl) (w.heap.size + 1) 0 (by rfl) xs _ (unhide R_x) Try.underlying27 (by rfl) (unhide I_x) ?_))
    refine (equal_ok x x hsx hsx gd xs _ (unhide V_got) (unhide V_x)).mono ?_
    rintro e w7 ⟨rfl, bG⟩
    rw [show (ordV x x == 0) = true by rw [ordV_self]; rfl]
    have R_v := hide (Row8.below (unhide R_v) bG)
    have V_v := hide (VlC.below bG _ _ (unhide V_v))
    have R_x := hide (Row8.below (unhide R_x) bG)
    have V_x := hide (VlC.below bG _ _ (unhide V_x))
    have R_old := hide (Row8.below (unhide R_old) bG)
    have V_old := hide (VlC.below bG _ _ (unhide V_old))
    have R_next := hide (Row8.below (unhide R_next) bG)
    have V_next := hide (VlC.below bG _ _ (unhide V_next))
    have R_whole := hide (Row8.below (unhide R_whole) bG)
    have V_whole := hide (VlC.below bG _ _ (unhide V_whole))
    have R_got := hide (Row8.below (unhide R_got) bG)
    have V_got := hide (VlC.below bG _ _ (unhide V_got))
    have BW : Below w.heap.size w w7 := BW.trans (bG.mono BW.size)
    have HP := hide ((unhide HP).below bG)
    have HO := hide ((unhide HO).below bG)
    clear bG
    go_wp2_with (first
      | (refine wpList_load_mid (by rfl) 27 _ (by rfl) (w3.heap.size) 0 (by rfl) qd _ (unhide R_next) Try.underlying27 (by rfl) (unhide I_next) ?_)
      | (refine wpList_load_mid (by rfl) 27 _ (by rfl) (w2.heap.size) 0 (by rfl) od _ (unhide R_old) Try.underlying27 (by rfl) (unhide I_old) ?_))
    refine (set_ok q o qd od _ (unhide V_next) (unhide V_old) hsq hso ap n c ss (unhide HP) (by omega)).mono ?_
    rintro e w8 ⟨bG, pb, b, bd, rfl, hfr, hif5⟩
    have R_v := hide (Row8.below (unhide R_v) bG)
    have V_v := hide (VlC.below bG _ _ (unhide V_v))
    have R_x := hide (Row8.below (unhide R_x) bG)
    have V_x := hide (VlC.below bG _ _ (unhide V_x))
    have R_old := hide (Row8.below (unhide R_old) bG)
    have V_old := hide (VlC.below bG _ _ (unhide V_old))
    have R_next := hide (Row8.below (unhide R_next) bG)
    have V_next := hide (VlC.below bG _ _ (unhide V_next))
    have R_whole := hide (Row8.below (unhide R_whole) bG)
    have V_whole := hide (VlC.below bG _ _ (unhide V_whole))
    have R_got := hide (Row8.below (unhide R_got) bG)
    have V_got := hide (VlC.below bG _ _ (unhide V_got))
    have BW : Below w.heap.size w w8 := BW.trans (bG.mono BW.size)
    have HP := hide ((unhide HP).below bG)
    have HO := hide ((unhide HO).below bG)
    clear bG
    obtain rfl : v = b := by have := setP_back (unhide HG).2 (unhide HG).1; cases pb; simp [getP_setP (unhide HG).2] at hif5; simp [this] at hif5; exact hif5
    clear hif5
    have d8 := (hfr.read).cells
    have d1_back := (hfr.read).one
    have I_back := hide (show (Try.prog.info? 27).map (·.size) = some bd.length by rw [d8]; exact infoV)
    have J_back := hide (show (Try.prog.info? 27).map (·.size) = some bd.toArray.size by simp [d8, infoV])
    have T_back := hide (show (w8.alloc (.cells #[.int .i64 0, .bool false, .int .i64 0, .float .f64 0, .string { data := #[] }, .string { data := #[] }, .slice none 0 0, .slice none 0 0] 27)).there w8.heap.size 0 bd.toArray.size from there_new (by simp [d8]))
    obtain ⟨X_back, eX⟩ : ∃ X, X = (w8.alloc (.cells #[.int .i64 0, .bool false, .int .i64 0, .float .f64 0, .string { data := #[] }, .string { data := #[] }, .slice none 0 0, .slice none 0 0] 27)).setCells w8.heap.size 0 bd := ⟨_, rfl⟩
    have bX : Below w8.heap.size w8 X_back := by rw [eX]; exact below_setCells _ _ _ _ ((Below.refl _ _).alloc (Nat.le_refl _) _) (Nat.le_refl _)
    have R_back := hide (show X_back.rangeAt w8.heap.size 0 bd by rw [eX]; exact World.rangeAt_setCells_same _ _ _ _ (unhide T_back))
    have V_back := hide (VlC.below bX _ _ (hfr.read))
    have E_back := hide eX
    clear eX d8
    have R_v := hide (Row8.below (unhide R_v) bX)
    have V_v := hide (VlC.below bX _ _ (unhide V_v))
    have R_x := hide (Row8.below (unhide R_x) bX)
    have V_x := hide (VlC.below bX _ _ (unhide V_x))
    have R_old := hide (Row8.below (unhide R_old) bX)
    have V_old := hide (VlC.below bX _ _ (unhide V_old))
    have R_next := hide (Row8.below (unhide R_next) bX)
    have V_next := hide (VlC.below bX _ _ (unhide V_next))
    have R_whole := hide (Row8.below (unhide R_whole) bX)
    have V_whole := hide (VlC.below bX _ _ (unhide V_whole))
    have R_got := hide (Row8.below (unhide R_got) bX)
    have V_got := hide (VlC.below bX _ _ (unhide V_got))
    have BW : Below w.heap.size w X_back := BW.trans (bX.mono BW.size)
    have HP := hide ((unhide HP).below bX)
    have HO := hide ((unhide HO).below bX)
    clear bX
    clear hfr
    go_wp2_with (first
      | (refine wpList_store_mid (by rfl) 27 _ _ (by rfl) w8.heap.size 0 bd.toArray (by rfl) (by rfl) (unhide T_back) (unhide J_back) d1_back ?_; rw [show (w8.alloc (.cells #[.int .i64 0, .bool false, .int .i64 0, .float .f64 0, .string { data := #[] }, .string { data := #[] }, .slice none 0 0, .slice none 0 0] 27)).setCells w8.heap.size 0 bd.toArray.toList = X_back from (unhide E_back).symm])
      | (refine wpList_load_mid (by rfl) 27 _ (by rfl) (w.heap.size) 0 (by rfl) cs _ (unhide R_v) Try.underlying27 (by rfl) (unhide I_v) ?_)
      | (refine wpList_load_mid (by rfl) 27 _ (by rfl) (w2.heap.size) 0 (by rfl) od _ (unhide R_old) Try.underlying27 (by rfl) (unhide I_old) ?_))
    refine (set_ok v o cs od _ (unhide V_v) (unhide V_old) hsv hso ap n c ss (unhide HP) (by omega)).mono ?_
    rintro e w9 ⟨bG, ps, b2, sd, rfl, hfr, hif6⟩
    have R_v := hide (Row8.below (unhide R_v) bG)
    have V_v := hide (VlC.below bG _ _ (unhide V_v))
    have R_x := hide (Row8.below (unhide R_x) bG)
    have V_x := hide (VlC.below bG _ _ (unhide V_x))
    have R_old := hide (Row8.below (unhide R_old) bG)
    have V_old := hide (VlC.below bG _ _ (unhide V_old))
    have R_next := hide (Row8.below (unhide R_next) bG)
    have V_next := hide (VlC.below bG _ _ (unhide V_next))
    have R_whole := hide (Row8.below (unhide R_whole) bG)
    have V_whole := hide (VlC.below bG _ _ (unhide V_whole))
    have R_got := hide (Row8.below (unhide R_got) bG)
    have V_got := hide (VlC.below bG _ _ (unhide V_got))
    have R_back := hide (Row8.below (unhide R_back) bG)
    have V_back := hide (VlC.below bG _ _ (unhide V_back))
    have BW : Below w.heap.size w w9 := BW.trans (bG.mono BW.size)
    have HP := hide ((unhide HP).below bG)
    have HO := hide ((unhide HO).below bG)
    clear bG
    obtain rfl : v = b2 := by have := setP_self (unhide HG).1; cases ps; simp [(unhide HG).1] at hif6; simp [this] at hif6; exact hif6
    clear hif6
    have d8 := (hfr.read).cells
    have d1_same := (hfr.read).one
    have I_same := hide (show (Try.prog.info? 27).map (·.size) = some sd.length by rw [d8]; exact infoV)
    have J_same := hide (show (Try.prog.info? 27).map (·.size) = some sd.toArray.size by simp [d8, infoV])
    have T_same := hide (show (w9.alloc (.cells #[.int .i64 0, .bool false, .int .i64 0, .float .f64 0, .string { data := #[] }, .string { data := #[] }, .slice none 0 0, .slice none 0 0] 27)).there w9.heap.size 0 sd.toArray.size from there_new (by simp [d8]))
    obtain ⟨X_same, eX⟩ : ∃ X, X = (w9.alloc (.cells #[.int .i64 0, .bool false, .int .i64 0, .float .f64 0, .string { data := #[] }, .string { data := #[] }, .slice none 0 0, .slice none 0 0] 27)).setCells w9.heap.size 0 sd := ⟨_, rfl⟩
    have bX : Below w9.heap.size w9 X_same := by rw [eX]; exact below_setCells _ _ _ _ ((Below.refl _ _).alloc (Nat.le_refl _) _) (Nat.le_refl _)
    have R_same := hide (show X_same.rangeAt w9.heap.size 0 sd by rw [eX]; exact World.rangeAt_setCells_same _ _ _ _ (unhide T_same))
    have V_same := hide (VlC.below bX _ _ (hfr.read))
    have E_same := hide eX
    clear eX d8
    have R_v := hide (Row8.below (unhide R_v) bX)
    have V_v := hide (VlC.below bX _ _ (unhide V_v))
    have R_x := hide (Row8.below (unhide R_x) bX)
    have V_x := hide (VlC.below bX _ _ (unhide V_x))
    have R_old := hide (Row8.below (unhide R_old) bX)
    have V_old := hide (VlC.below bX _ _ (unhide V_old))
    have R_next := hide (Row8.below (unhide R_next) bX)
    have V_next := hide (VlC.below bX _ _ (unhide V_next))
    have R_whole := hide (Row8.below (unhide R_whole) bX)
    have V_whole := hide (VlC.below bX _ _ (unhide V_whole))
    have R_got := hide (Row8.below (unhide R_got) bX)
    have V_got := hide (VlC.below bX _ _ (unhide V_got))
    have R_back := hide (Row8.below (unhide R_back) bX)
    have V_back := hide (VlC.below bX _ _ (unhide V_back))
    have BW : Below w.heap.size w X_same := BW.trans (bX.mono BW.size)
    have HP := hide ((unhide HP).below bX)
    have HO := hide ((unhide HO).below bX)
    clear bX
    clear hfr
    go_wp2_with (first
      | (refine wpList_store_mid (by rfl) 27 _ _ (by rfl) w9.heap.size 0 sd.toArray (by rfl) (by rfl) (unhide T_same) (unhide J_same) d1_same ?_; rw [show (w9.alloc (.cells #[.int .i64 0, .bool false, .int .i64 0, .float .f64 0, .string { data := #[] }, .string { data := #[] }, .slice none 0 0, .slice none 0 0] 27)).setCells w9.heap.size 0 sd.toArray.toList = X_same from (unhide E_same).symm])
      | (refine wpList_load_mid (by rfl) 27 _ (by rfl) (w8.heap.size) 0 (by rfl) bd _ (unhide R_back) Try.underlying27 (by rfl) (unhide I_back) ?_)
      | (refine wpList_load_mid (by rfl) 27 _ (by rfl) (w.heap.size) 0 (by rfl) cs _ (unhide R_v) Try.underlying27 (by rfl) (unhide I_v) ?_))
    refine (equal_ok v v hsv hsv bd cs _ (unhide V_back) (unhide V_v)).mono ?_
    rintro e wa ⟨rfl, bG⟩
    rw [show (ordV v v == 0) = true by rw [ordV_self]; rfl]
    have R_v := hide (Row8.below (unhide R_v) bG)
    have V_v := hide (VlC.below bG _ _ (unhide V_v))
    have R_x := hide (Row8.below (unhide R_x) bG)
    have V_x := hide (VlC.below bG _ _ (unhide V_x))
    have R_old := hide (Row8.below (unhide R_old) bG)
    have V_old := hide (VlC.below bG _ _ (unhide V_old))
    have R_next := hide (Row8.below (unhide R_next) bG)
    have V_next := hide (VlC.below bG _ _ (unhide V_next))
    have R_whole := hide (Row8.below (unhide R_whole) bG)
    have V_whole := hide (VlC.below bG _ _ (unhide V_whole))
    have R_got := hide (Row8.below (unhide R_got) bG)
    have V_got := hide (VlC.below bG _ _ (unhide V_got))
    have R_back := hide (Row8.below (unhide R_back) bG)
    have V_back := hide (VlC.below bG _ _ (unhide V_back))
    have R_same := hide (Row8.below (unhide R_same) bG)
    have V_same := hide (VlC.below bG _ _ (unhide V_same))
    have BW : Below w.heap.size w wa := BW.trans (bG.mono BW.size)
    have HP := hide ((unhide HP).below bG)
    have HO := hide ((unhide HO).below bG)
    clear bG
    go_wp2_with (first
      | (refine wpList_loadG (by rfl) 27 _ (by rfl) (w9.heap.size) 0 (by rfl) sd _ (unhide R_same) Try.underlying27 (by rfl) (unhide I_same) ?_)
      | (refine wpList_loadG (by rfl) 27 _ (by rfl) (w.heap.size) 0 (by rfl) cs _ (unhide R_v) Try.underlying27 (by rfl) (unhide I_v) ?_))
    refine (equal_ok v v hsv hsv sd cs _ (unhide V_same) (unhide V_v)).mono ?_
    rintro e wb ⟨rfl, bG⟩
    rw [show (ordV v v == 0) = true by rw [ordV_self]; rfl]
    have R_v := hide (Row8.below (unhide R_v) bG)
    have V_v := hide (VlC.below bG _ _ (unhide V_v))
    have R_x := hide (Row8.below (unhide R_x) bG)
    have V_x := hide (VlC.below bG _ _ (unhide V_x))
    have R_old := hide (Row8.below (unhide R_old) bG)
    have V_old := hide (VlC.below bG _ _ (unhide V_old))
    have R_next := hide (Row8.below (unhide R_next) bG)
    have V_next := hide (VlC.below bG _ _ (unhide V_next))
    have R_whole := hide (Row8.below (unhide R_whole) bG)
    have V_whole := hide (VlC.below bG _ _ (unhide V_whole))
    have R_got := hide (Row8.below (unhide R_got) bG)
    have V_got := hide (VlC.below bG _ _ (unhide V_got))
    have R_back := hide (Row8.below (unhide R_back) bG)
    have V_back := hide (VlC.below bG _ _ (unhide V_back))
    have R_same := hide (Row8.below (unhide R_same) bG)
    have V_same := hide (VlC.below bG _ _ (unhide V_same))
    have BW : Below w.heap.size w wb := BW.trans (bG.mono BW.size)
    have HP := hide ((unhide HP).below bG)
    have HO := hide ((unhide HO).below bG)
    clear bG
    go_wp2_with fail
    refine (under_any ap ao n c m d ss tt _ (unhide HP) (unhide HO) hnc hac (by omega) (by omega)).mono ?_
    rintro e wc ⟨rfl, bG⟩
    have R_v := hide (Row8.below (unhide R_v) bG)
    have V_v := hide (VlC.below bG _ _ (unhide V_v))
    have R_x := hide (Row8.below (unhide R_x) bG)
    have V_x := hide (VlC.below bG _ _ (unhide V_x))
    have R_old := hide (Row8.below (unhide R_old) bG)
    have V_old := hide (VlC.below bG _ _ (unhide V_old))
    have R_next := hide (Row8.below (unhide R_next) bG)
    have V_next := hide (VlC.below bG _ _ (unhide V_next))
    have R_whole := hide (Row8.below (unhide R_whole) bG)
    have V_whole := hide (VlC.below bG _ _ (unhide V_whole))
    have R_got := hide (Row8.below (unhide R_got) bG)
    have V_got := hide (VlC.below bG _ _ (unhide V_got))
    have R_back := hide (Row8.below (unhide R_back) bG)
    have V_back := hide (VlC.below bG _ _ (unhide V_back))
    have R_same := hide (Row8.below (unhide R_same) bG)
    have V_same := hide (VlC.below bG _ _ (unhide V_same))
    have BW : Below w.heap.size w wc := BW.trans (bG.mono BW.size)
    have HP := hide ((unhide HP).below bG)
    have HO := hide ((unhide HO).below bG)
    clear bG
    cases hu1 : undS ss tt with
    | true =>
      go_wp2
      go_ret
      exact ⟨rfl, BW⟩
    | false =>
      go_wp2_with fail
      refine (under_any ao ap m d n c tt ss _ (unhide HO) (unhide HP) hmd had (by omega) (by omega)).mono ?_
      rintro e wd ⟨rfl, bG⟩
      have R_v := hide (Row8.below (unhide R_v) bG)
      have V_v := hide (VlC.below bG _ _ (unhide V_v))
      have R_x := hide (Row8.below (unhide R_x) bG)
      have V_x := hide (VlC.below bG _ _ (unhide V_x))
      have R_old := hide (Row8.below (unhide R_old) bG)
      have V_old := hide (VlC.below bG _ _ (unhide V_old))
      have R_next := hide (Row8.below (unhide R_next) bG)
      have V_next := hide (VlC.below bG _ _ (unhide V_next))
      have R_whole := hide (Row8.below (unhide R_whole) bG)
      have V_whole := hide (VlC.below bG _ _ (unhide V_whole))
      have R_got := hide (Row8.below (unhide R_got) bG)
      have V_got := hide (VlC.below bG _ _ (unhide V_got))
      have R_back := hide (Row8.below (unhide R_back) bG)
      have V_back := hide (VlC.below bG _ _ (unhide V_back))
      have R_same := hide (Row8.below (unhide R_same) bG)
      have V_same := hide (VlC.below bG _ _ (unhide V_same))
      have BW : Below w.heap.size w wd := BW.trans (bG.mono BW.size)
      have HP := hide ((unhide HP).below bG)
      have HO := hide ((unhide HO).below bG)
      clear bG
      cases hu2 : undS tt ss with
      | true =>
        go_wp2
        go_ret
        exact ⟨rfl, BW⟩
      | false =>
        have HE := hide (getP_other (unhide HG).2 hu1 hu2)
        clear hu1 hu2
        go_wp2_with (first
          | (refine wpList_load_mid (by rfl) 27 _ (by rfl) (w.heap.size) 0 (by rfl) cs _ (unhide R_v) Try.underlying27 (by rfl) (unhide I_v) ?_))
        refine (get_ok v cs _ (unhide V_v) hsv ao m d tt (unhide HO) (by omega)).mono ?_
        rintro e we ⟨bG, had, a, ad, rfl, hfr, hif7⟩
        have R_v := hide (Row8.below (unhide R_v) bG)
        have V_v := hide (VlC.below bG _ _ (unhide V_v))
        have R_x := hide (Row8.below (unhide R_x) bG)
        have V_x := hide (VlC.below bG _ _ (unhide V_x))
        have R_old := hide (Row8.below (unhide R_old) bG)
        have V_old := hide (VlC.below bG _ _ (unhide V_old))
        have R_next := hide (Row8.below (unhide R_next) bG)
        have V_next := hide (VlC.below bG _ _ (unhide V_next))
        have R_whole := hide (Row8.below (unhide R_whole) bG)
        have V_whole := hide (VlC.below bG _ _ (unhide V_whole))
        have R_got := hide (Row8.below (unhide R_got) bG)
        have V_got := hide (VlC.below bG _ _ (unhide V_got))
        have R_back := hide (Row8.below (unhide R_back) bG)
        have V_back := hide (VlC.below bG _ _ (unhide V_back))
        have R_same := hide (Row8.below (unhide R_same) bG)
        have V_same := hide (VlC.below bG _ _ (unhide V_same))
        have BW : Below w.heap.size w we := BW.trans (bG.mono BW.size)
        have HP := hide ((unhide HP).below bG)
        have HO := hide ((unhide HO).below bG)
        clear bG
        have hsa : Small a := by cases had <;> simp at hif7; exact hif7.2 ▸ Small.z0; exact hsv.getP hif7
        have d8 := (hfr.read).cells
        have d1_was := (hfr.read).one
        have I_was := hide (show (Try.prog.info? 27).map (·.size) = some ad.length by rw [d8]; exact infoV)
        have J_was := hide (show (Try.prog.info? 27).map (·.size) = some ad.toArray.size by simp [d8, infoV])
        have T_was := hide (show (we.alloc (.cells #[.int .i64 0, .bool false, .int .i64 0, .float .f64 0, .string { data := #[] }, .string { data := #[] }, .slice none 0 0, .slice none 0 0] 27)).there we.heap.size 0 ad.toArray.size from there_new (by simp [d8]))
        obtain ⟨X_was, eX⟩ : ∃ X, X = (we.alloc (.cells #[.int .i64 0, .bool false, .int .i64 0, .float .f64 0, .string { data := #[] }, .string { data := #[] }, .slice none 0 0, .slice none 0 0] 27)).setCells we.heap.size 0 ad := ⟨_, rfl⟩
        have bX : Below we.heap.size we X_was := by rw [eX]; exact below_setCells _ _ _ _ ((Below.refl _ _).alloc (Nat.le_refl _) _) (Nat.le_refl _)
        have R_was := hide (show X_was.rangeAt we.heap.size 0 ad by rw [eX]; exact World.rangeAt_setCells_same _ _ _ _ (unhide T_was))
        have V_was := hide (VlC.below bX _ _ (hfr.read))
        have E_was := hide eX
        clear eX d8
        have R_v := hide (Row8.below (unhide R_v) bX)
        have V_v := hide (VlC.below bX _ _ (unhide V_v))
        have R_x := hide (Row8.below (unhide R_x) bX)
        have V_x := hide (VlC.below bX _ _ (unhide V_x))
        have R_old := hide (Row8.below (unhide R_old) bX)
        have V_old := hide (VlC.below bX _ _ (unhide V_old))
        have R_next := hide (Row8.below (unhide R_next) bX)
        have V_next := hide (VlC.below bX _ _ (unhide V_next))
        have R_whole := hide (Row8.below (unhide R_whole) bX)
        have V_whole := hide (VlC.below bX _ _ (unhide V_whole))
        have R_got := hide (Row8.below (unhide R_got) bX)
        have V_got := hide (VlC.below bX _ _ (unhide V_got))
        have R_back := hide (Row8.below (unhide R_back) bX)
        have V_back := hide (VlC.below bX _ _ (unhide V_back))
        have R_same := hide (Row8.below (unhide R_same) bX)
        have V_same := hide (VlC.below bX _ _ (unhide V_same))
        have BW : Below w.heap.size w X_was := BW.trans (bX.mono BW.size)
        have HP := hide ((unhide HP).below bX)
        have HO := hide ((unhide HO).below bX)
        clear bX
        clear hfr
        have H7 := hide hif7
        clear hif7
        go_wp2_with (first
          | (refine wpList_store_mid (by rfl) 27 _ _ (by rfl) we.heap.size 0 ad.toArray (by rfl) (by rfl) (unhide T_was) (unhide J_was) d1_was ?_; rw [show (we.alloc (.cells #[.int .i64 0, .bool false, .int .i64 0, .float .f64 0, .string { data := #[] }, .string { data := #[] }, .slice none 0 0, .slice none 0 0] 27)).setCells we.heap.size 0 ad.toArray.toList = X_was from (unhide E_was).symm])
          | (refine wpList_load_mid (by rfl) 27 _ (by rfl) (w3.heap.size) 0 (by rfl) qd _ (unhide R_next) Try.underlying27 (by rfl) (unhide I_next) ?_))
        refine (get_ok q qd _ (unhide V_next) hsq ao m d tt (unhide HO) (by omega)).mono ?_
        rintro e wf ⟨bG, has, a2, id, rfl, hfr, hif8⟩
        have R_v := hide (Row8.below (unhide R_v) bG)
        have V_v := hide (VlC.below bG _ _ (unhide V_v))
        have R_x := hide (Row8.below (unhide R_x) bG)
        have V_x := hide (VlC.below bG _ _ (unhide V_x))
        have R_old := hide (Row8.below (unhide R_old) bG)
        have V_old := hide (VlC.below bG _ _ (unhide V_old))
        have R_next := hide (Row8.below (unhide R_next) bG)
        have V_next := hide (VlC.below bG _ _ (unhide V_next))
        have R_whole := hide (Row8.below (unhide R_whole) bG)
        have V_whole := hide (VlC.below bG _ _ (unhide V_whole))
        have R_got := hide (Row8.below (unhide R_got) bG)
        have V_got := hide (VlC.below bG _ _ (unhide V_got))
        have R_back := hide (Row8.below (unhide R_back) bG)
        have V_back := hide (VlC.below bG _ _ (unhide V_back))
        have R_same := hide (Row8.below (unhide R_same) bG)
        have V_same := hide (VlC.below bG _ _ (unhide V_same))
        have R_was := hide (Row8.below (unhide R_was) bG)
        have V_was := hide (VlC.below bG _ _ (unhide V_was))
        have BW : Below w.heap.size w wf := BW.trans (bG.mono BW.size)
        have HP := hide ((unhide HP).below bG)
        have HO := hide ((unhide HO).below bG)
        clear bG
        obtain ⟨rfl, rfl⟩ : had = has ∧ a = a2 := by have h7 := unhide H7; rw [unhide HE] at hif8; obtain ⟨r1, r2, -⟩ := same_get h7 hif8 hsv; exact ⟨r1, r2⟩
        clear hif8 H7
        have d8 := (hfr.read).cells
        have d1_is := (hfr.read).one
        have I_is := hide (show (Try.prog.info? 27).map (·.size) = some id.length by rw [d8]; exact infoV)
        have J_is := hide (show (Try.prog.info? 27).map (·.size) = some id.toArray.size by simp [d8, infoV])
        have T_is := hide (show (wf.alloc (.cells #[.int .i64 0, .bool false, .int .i64 0, .float .f64 0, .string { data := #[] }, .string { data := #[] }, .slice none 0 0, .slice none 0 0] 27)).there wf.heap.size 0 id.toArray.size from there_new (by simp [d8]))
        obtain ⟨X_is, eX⟩ : ∃ X, X = (wf.alloc (.cells #[.int .i64 0, .bool false, .int .i64 0, .float .f64 0, .string { data := #[] }, .string { data := #[] }, .slice none 0 0, .slice none 0 0] 27)).setCells wf.heap.size 0 id := ⟨_, rfl⟩
        have bX : Below wf.heap.size wf X_is := by rw [eX]; exact below_setCells _ _ _ _ ((Below.refl _ _).alloc (Nat.le_refl _) _) (Nat.le_refl _)
        have R_is := hide (show X_is.rangeAt wf.heap.size 0 id by rw [eX]; exact World.rangeAt_setCells_same _ _ _ _ (unhide T_is))
        have V_is := hide (VlC.below bX _ _ (hfr.read))
        have E_is := hide eX
        clear eX d8
        have R_v := hide (Row8.below (unhide R_v) bX)
        have V_v := hide (VlC.below bX _ _ (unhide V_v))
        have R_x := hide (Row8.below (unhide R_x) bX)
        have V_x := hide (VlC.below bX _ _ (unhide V_x))
        have R_old := hide (Row8.below (unhide R_old) bX)
        have V_old := hide (VlC.below bX _ _ (unhide V_old))
        have R_next := hide (Row8.below (unhide R_next) bX)
        have V_next := hide (VlC.below bX _ _ (unhide V_next))
        have R_whole := hide (Row8.below (unhide R_whole) bX)
        have V_whole := hide (VlC.below bX _ _ (unhide V_whole))
        have R_got := hide (Row8.below (unhide R_got) bX)
        have V_got := hide (VlC.below bX _ _ (unhide V_got))
        have R_back := hide (Row8.below (unhide R_back) bX)
        have V_back := hide (VlC.below bX _ _ (unhide V_back))
        have R_same := hide (Row8.below (unhide R_same) bX)
        have V_same := hide (VlC.below bX _ _ (unhide V_same))
        have R_was := hide (Row8.below (unhide R_was) bX)
        have V_was := hide (VlC.below bX _ _ (unhide V_was))
        have BW : Below w.heap.size w X_is := BW.trans (bX.mono BW.size)
        have HP := hide ((unhide HP).below bX)
        have HO := hide ((unhide HO).below bX)
        clear bX
        clear hfr
        have hhh : (had == had) = true := by cases had <;> rfl
        go_wp2_with (first
          | (refine wpList_store_mid (by rfl) 27 _ _ (by rfl) wf.heap.size 0 id.toArray (by rfl) (by rfl) (unhide T_is) (unhide J_is) d1_is ?_; rw [show (wf.alloc (.cells #[.int .i64 0, .bool false, .int .i64 0, .float .f64 0, .string { data := #[] }, .string { data := #[] }, .slice none 0 0, .slice none 0 0] 27)).setCells wf.heap.size 0 id.toArray.toList = X_is from (unhide E_is).symm])
          | (refine wpList_loadG (by rfl) 27 _ (by rfl) (we.heap.size) 0 (by rfl) ad _ (unhide R_was) Try.underlying27 (by rfl) (unhide I_was) ?_)
          | (refine wpList_loadG (by rfl) 27 _ (by rfl) (wf.heap.size) 0 (by rfl) id _ (unhide R_is) Try.underlying27 (by rfl) (unhide I_is) ?_))
        refine (equal_ok a a hsa hsa ad id _ (unhide V_was) (unhide V_is)).mono ?_
        rintro e wg ⟨rfl, bG⟩
        rw [show (ordV a a == 0) = true by rw [ordV_self]; rfl]
        have R_v := hide (Row8.below (unhide R_v) bG)
        have V_v := hide (VlC.below bG _ _ (unhide V_v))
        have R_x := hide (Row8.below (unhide R_x) bG)
        have V_x := hide (VlC.below bG _ _ (unhide V_x))
        have R_old := hide (Row8.below (unhide R_old) bG)
        have V_old := hide (VlC.below bG _ _ (unhide V_old))
        have R_next := hide (Row8.below (unhide R_next) bG)
        have V_next := hide (VlC.below bG _ _ (unhide V_next))
        have R_whole := hide (Row8.below (unhide R_whole) bG)
        have V_whole := hide (VlC.below bG _ _ (unhide V_whole))
        have R_got := hide (Row8.below (unhide R_got) bG)
        have V_got := hide (VlC.below bG _ _ (unhide V_got))
        have R_back := hide (Row8.below (unhide R_back) bG)
        have V_back := hide (VlC.below bG _ _ (unhide V_back))
        have R_same := hide (Row8.below (unhide R_same) bG)
        have V_same := hide (VlC.below bG _ _ (unhide V_same))
        have R_was := hide (Row8.below (unhide R_was) bG)
        have V_was := hide (VlC.below bG _ _ (unhide V_was))
        have R_is := hide (Row8.below (unhide R_is) bG)
        have V_is := hide (VlC.below bG _ _ (unhide V_is))
        have BW : Below w.heap.size w wg := BW.trans (bG.mono BW.size)
        have HP := hide ((unhide HP).below bG)
        have HO := hide ((unhide HO).below bG)
        clear bG
        go_wp2
        go_ret
        exact ⟨rfl, BW⟩
end Go.Proofs.Ytiblkdedbimggaa.og
