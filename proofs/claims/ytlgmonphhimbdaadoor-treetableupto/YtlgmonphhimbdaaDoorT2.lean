import Derived.Test.YtlgmonphhimbdaaDoorT1
import Derived.Maps.AppendAt
import Derived.StringKeys
import Derived.Deep.RegionHeld
import Derived.Laws.OwnMore
import Derived.Maps.Views
import Derived.Deep.AppendLies
import Derived.Deep.RegionLaw
namespace Go.Proofs.YtlgmonphhimbdaaDoor.tab
open Go.ChangeShapes Go.WideShapes Go.ChangeAt Go.RowKit Go.Maps
set_option linter.unusedVariables false
theorem find_none (s : ByteArray) (b : Nat) (w : World) (hs : s.size ≤ maxLen) (hb : b < w.heap.size) (c1 : w.cell? ⟨b, 1, none⟩ = some (.map none)) :
    Calls Tryd.prog 11 #[.pointer (some ⟨b, 0, none⟩), .string s] w fun e w' => e = .returned (.tuple #[.int .i64 0, .bool false]) ∧ Below w.heap.size w w' := by
  have hl := fun w : World => Maps.look_nil (w := w) true law Tryd.underlying38 (zeroE _) (Go.WideMaps.keyOf_string_mk Tryd.underlying9 hs)
  simp only [if_true] at hl
  go_enter Tryd.func11, Tryd.ntmps11
  go_wp2_with fail
  refine (holdable_str s _).mono ?_
  rintro e w1 ⟨rfl, hb1⟩
  have c1' := (hb1.cell (p := ⟨b, 1, none⟩) hb).trans c1
  go_wp2
  go_ret2
  exact ⟨rfl, hb1⟩
theorem find_one (s : ByteArray) (b m : Nat) (a : Option Addr) (n cap : Nat) (k : Nat) (rs : List Rw) (D : DataW Unit) (w : World) (hs : s.size ≤ maxLen) (hb : b < w.heap.size) (c0 : w.cell? ⟨b, 0, none⟩ = some (.slice a n cap)) (c1 : w.cell? ⟨b, 1, none⟩ = some (.map (some m)))
    (hm : m < w.heap.size) (hown : w.ownsMap Tryd.prog 9 (plainElem Tryd.prog 3) m k D) (hR : Rws w a n rs) (hn : n ≤ 4611686018427387903) (hi : Hid (Rising rs)) :
    Calls Tryd.prog 11 #[.pointer (some ⟨b, 0, none⟩), .string s] w fun e w' =>
      (Maps.has D (.string s.data.toList) = false ∧ e = .returned (.tuple #[.int .i64 0, .bool false]) ∧ Below w.heap.size w w') ∨
      (∃ c, Maps.has D (.string s.data.toList) = true ∧ D.atKey (.string s.data.toList) (.lit (.int .i64 0)) = .lit (.int .i64 c) ∧ BsPost rs n c w e w') := by
  go_enter Tryd.func11, Tryd.ntmps11
  go_wp2_with fail
  refine (holdable_str s _).mono ?_
  rintro e w1 ⟨rfl, hb1⟩
  have c0' := (hb1.cell (p := ⟨b, 0, none⟩) hb).trans c0
  have c1' := (hb1.cell (p := ⟨b, 1, none⟩) hb).trans c1
  have hown1 : w1.ownsMap Tryd.prog 9 (plainElem Tryd.prog 3) m k D := by
    obtain ⟨es, clock, hbk, F1, hle, hD⟩ := hown
    exact ⟨es, clock, by rw [hb1.block m hm]; exact hbk, F1, hle, hD⟩
  have hR1 := hR.below hb1
  cases hh : Maps.has D (.string s.data.toList)
  · go_wp2_with (at_lookup; refine wpList_lookup_own_ok_int _ rfl _ _ 38 rfl 9 3 .i64 law Tryd.underlying38 Tryd.underlying3 (zeroE _) m k D rfl hown1 _ _ rfl (Go.WideMaps.keyOf_string_mk Tryd.underlying9 hs) ?_; intro c hat hwc)
    go_ret2
    exact .inl ⟨hh, rfl, hb1⟩
  · go_wp2_with (at_lookup; refine wpList_lookup_own_ok_int _ rfl _ _ 38 rfl 9 3 .i64 law Tryd.underlying38 Tryd.underlying3 (zeroE _) m k D rfl hown1 _ _ rfl (Go.WideMaps.keyOf_string_mk Tryd.underlying9 hs) ?_; intro c hat hwc)
    refine (bs a n cap c rs w1 hn hR1 hi).mono ?_
    rintro e w2 ⟨i, f, q1, q2, q3, q4, rfl, hb2⟩
    have q := hide (⟨q1, q2, q3, q4⟩ : i ≤ n ∧ (∀ k (r : Rw), k < i → rs[k]? = some r → r.1 < c) ∧ (∀ k (r : Rw), i ≤ k → rs[k]? = some r → c ≤ r.1) ∧ (f = true ↔ ∃ r : Rw, rs[i]? = some r ∧ r.1 = c))
    clear q1 q2 q3 q4
    go_wp2
    go_ret2
    obtain ⟨q1, q2, q3, q4⟩ := unhide q
    exact .inr ⟨c, hh, hat, i, f, q1, q2, q3, q4, rfl, hb1.trans (hb2.mono hb1.size)⟩
theorem infoR : (Tryd.prog.info? 45).map (fun i => (i.zero, i.size, i.bytes)) = some (some (.agg #[.int .i64 0, .string ⟨#[]⟩, .int .i64 0]), 3, 32) := by kernel_rfl
theorem mapnil (w : World) : (binOp BinOp.eql 38 (.map none) (.map none)).run Tryd.prog w = .ok (.bool true) w := by kernel_rfl
theorem mapsome (m : Nat) (w : World) : (binOp BinOp.eql 38 (.map (some m)) (.map none)).run Tryd.prog w = .ok (.bool false) w := by kernel_rfl
theorem cs_other {w : World} {b i j : Nat} {v : Value} {o : Obj} (hb : b < w.heap.size) (h : i ≠ j) : ((w.setCell ⟨b, i, none⟩ v).alloc o).cell? ⟨b, j, none⟩ = w.cell? ⟨b, j, none⟩ :=
  (World.cell?_alloc_lt _ _ ⟨b, j, none⟩ (by simpa using hb)).trans (World.cell?_setCell_other _ _ _ _ (fun e => h (by cases e; rfl)))
theorem cs_same {w : World} {b i : Nat} {v u : Value} {o : Obj} (hb : b < w.heap.size) (h : w.cell? ⟨b, i, none⟩ = some u) : ((w.setCell ⟨b, i, none⟩ v).alloc o).cell? ⟨b, i, none⟩ = some v :=
  (World.cell?_alloc_lt _ _ ⟨b, i, none⟩ (by simpa using hb)).trans (World.cell?_setCell_same' _ _ _ (by rw [h]; rfl))
theorem fs_any {w : World} {b i j : Nat} {v : Value} {o : Obj} (hb : b ≠ w.heap.size) : ((w.setCell ⟨b, i, none⟩ v).alloc o).frozen? ⟨b, j, none⟩ = w.frozen? ⟨b, j, none⟩ :=
  (World.frozen?_alloc_old _ _ ⟨b, j, none⟩ (by simpa using hb)).trans (World.frozen?_setCell _ _ _ _)
/-- append to a row of the call's own, as one step of a region that draws. -/
theorem step_append_own {P : Program} {ops : Array Oper} {o : Oper} {a : Act} {w : World} {K : Act → World → Prop} {Q : Exit → Act → World → Prop} {E : Prop}
    (hg : o.guard = none) (s x : Operand) (t : TypeId) (hop : o.op = Op.call { callee := Callee.builtin Builtin.append, args := #[s, x], argTypes := #[t, t] })
    (base : Nat) (e : TypeId) (i : TypeInfo) (z : Value) (size bytes : Nat) (ht : P.underlying t = some (.slice e)) (hi : P.info? e = some i) (hz : i.zero = some z)
    (hsize : i.size = size) (hby : i.bytes = bytes) (hzs : z.cells.size = size) (hsz : 0 < size)
    (v : Value) (n : Nat) (xs : List Value) (hs : a.eval s = v) (hown : w.ownsRow base e size v n xs)
    (ad : Addr) (m c : Nat) (news : List Value) (hx : a.eval x = .slice (some ad) m c) (hl : news.length = m * size) (hnews : ∀ j u, news[j]? = some u → w.cell? (ad.add j) = some u) (h1 : ∀ u ∈ news, u.oneCell' = true)
    (h63 : n + m ≤ maxLen) (hbytes : (n + m) * bytes ≤ 140737488355328) (hbase : base ≤ w.heap.size)
    (hK : ∀ v' w', w'.ownsRow base e size v' (n + m) (xs ++ news) → w.grownBy w' v.ownBlock → (v' = .slice none 0 0 ↔ v = .slice none 0 0 ∧ m = 0) → K (a.put o.dst v') w') :
    if Region.wanted o (yielded ops a.tmps) = true then Oper.wp P o a w K Q else E := by
  have hw : Region.wanted o (yielded ops a.tmps) = true := by simp [Region.wanted, hg]
  rw [if_pos hw]
  obtain ⟨v', w', hrun, r1, r2, r3⟩ := run_append_own w base t o.type e i z size bytes ht hi hz hsize hby hzs hsz v n xs hown ad m c news hl hnews h1 h63 hbytes hbase
  unfold Oper.wp
  simp [execOp, hop, resolve, invoke, builtin, hs, hx, hrun, Result.andThen]
  exact hK v' w' r1 r2 r3
theorem cells3 (w : World) (x y z : Value) (t : TypeId) : ∀ j u, [x, y, z][j]? = some u → (w.alloc (.cells #[x, y, z] t)).cell? ((⟨w.heap.size, 0, none⟩ : Addr).add j) = some u := by
  intro j u hj
  match j, hj with
  | 0, hj => simp at hj; subst hj; simp [Addr.add]
  | 1, hj => simp at hj; subst hj; simp [Addr.add]
  | 2, hj => simp at hj; subst hj; simp [Addr.add]
  | (j + 3), hj => simp at hj
theorem kept_ad {w w' : World} {o : Obj} {row : Option Nat} (hg : (w.alloc o).drew.grownBy w' row) {b : Nat} (i : Nat) (hb : b < w.heap.size) (hne : some b ≠ row) : w'.cell? ⟨b, i, none⟩ = w.cell? ⟨b, i, none⟩ ∧ w'.frozen? ⟨b, i, none⟩ = w.frozen? ⟨b, i, none⟩ := by
  have hb' : b < (w.alloc o).drew.heap.size := by
    have e : (w.alloc o).drew.heap.size = w.heap.size + 1 := World.size_alloc w o
    omega
  exact ⟨(hg.cell_far ⟨b, i, none⟩ hb' hne).trans (World.cell?_alloc_lt w o ⟨b, i, none⟩ hb), (hg.frozen_far ⟨b, i, none⟩ hb' hne).trans (World.frozen?_alloc_old w o ⟨b, i, none⟩ (Nat.ne_of_lt hb))⟩
theorem own_shape {w : World} {base : Nat} {e : TypeId} {size : Nat} {v : Value} {n : Nat} {xs : List Value} (h : w.ownsRow base e size v (n + 1) xs) : ∃ g cap, v = .slice (some ⟨g, 0, none⟩) (n + 1) cap := by
  obtain ⟨h1, h2⟩ := h
  rcases h2 with ⟨_, h0⟩ | ⟨g, cap, cur, rfl, _⟩
  · omega
  · exact ⟨g, cap, rfl⟩
/-- a table of one entry -/
def One (w : World) (B b : Nat) (s : ByteArray) (v : Int) : Prop := ∃ g cap m, b < w.heap.size ∧ m < w.heap.size ∧ g < w.heap.size ∧ b ≠ g ∧ m ≠ g ∧ B ≤ g ∧ w.cell? ⟨b, 0, none⟩ = some (.slice (some ⟨g, 0, none⟩) 1 cap) ∧ w.cell? ⟨b, 1, none⟩ = some (.map (some m)) ∧
  w.ownsMap Tryd.prog 9 (plainElem (H := Unit) Tryd.prog 3) m 1 ((DataW.map []).put (.string s.data.toList) (.lit (.int .i64 0))) ∧
  w.cell? ⟨g, 0, none⟩ = some (.int .i64 0) ∧ w.cell? ⟨g, 1, none⟩ = some (.string s) ∧ w.cell? ⟨g, 2, none⟩ = some (.int .i64 v) ∧ w.frozen? ⟨g, 2, none⟩ = false
theorem one_of {w4 w5 : World} {o : Obj} {B b g cap m : Nat} {s : ByteArray} {v : Int} (hs : s.size ≤ maxLen) (hb5 : b < w5.heap.size)
    (p0 : (w5.setCell ⟨b, 0, none⟩ (.slice (some ⟨g, 0, none⟩) 1 cap)).cell? ⟨b, 0, none⟩ = some (.slice (some ⟨g, 0, none⟩) 1 cap))
    (p1 : (w5.setCell ⟨b, 0, none⟩ (.slice (some ⟨g, 0, none⟩) 1 cap)).cell? ⟨b, 1, none⟩ = some (.map (some m)))
    (p2 : (w5.setCell ⟨b, 0, none⟩ (.slice (some ⟨g, 0, none⟩) 1 cap)).cell? ⟨b, 2, none⟩ = some (.int .i64 0))
    (ho : w5.ownsRow w4.heap.size 45 3 (.slice (some ⟨g, 0, none⟩) 1 cap) 1 [.int .i64 0, .string s, .int .i64 v])
    (hm : w4.ownsMap Tryd.prog 9 (plainElem (H := Unit) Tryd.prog 3) m 1 ((DataW.map []).put (.string s.data.toList) (.lit (.int .i64 0))))
    (hg : (w4.alloc o).drew.grownBy w5 none) (hb4 : b < w4.heap.size) (hbm : b ≠ m) (hB : B ≤ b) :
    One ((w5.setCell ⟨b, 0, none⟩ (.slice (some ⟨g, 0, none⟩) 1 cap)).setCell ⟨b, 2, none⟩ (.int .i64 1)) B b s v := by
  obtain ⟨hg1, hg2⟩ := ho.lt g rfl
  have hm4 := hm.lt
  have hbg : b ≠ g := by omega
  have hm5 : w5.ownsMap Tryd.prog 9 (plainElem (H := Unit) Tryd.prog 3) m 1 ((DataW.map []).put (.string s.data.toList) (.lit (.int .i64 0))) := (hm.alloc o).drew.kept hg (by simp)
  have far : ∀ i, ((w5.setCell ⟨b, 0, none⟩ (.slice (some ⟨g, 0, none⟩) 1 cap)).setCell ⟨b, 2, none⟩ (.int .i64 1)).cell? ⟨g, i, none⟩ = w5.cell? ⟨g, i, none⟩ := fun i =>
    (World.cell?_setCell_far _ ⟨b, 2, none⟩ ⟨g, i, none⟩ _ hbg).trans (World.cell?_setCell_far _ ⟨b, 0, none⟩ ⟨g, i, none⟩ _ hbg)
  have sz : ((w5.setCell ⟨b, 0, none⟩ (.slice (some ⟨g, 0, none⟩) 1 cap)).setCell ⟨b, 2, none⟩ (.int .i64 1)).heap.size = w5.heap.size := by simp
  refine ⟨g, cap, m, by omega, ?_, by omega, hbg, by omega, by omega, ?_, ?_, (hm5.setCell (a := ⟨b, 0, none⟩) (fun e => hbm e.symm) _).setCell (a := ⟨b, 2, none⟩) (fun e => hbm e.symm) _, ?_, ?_, ?_, ?_⟩
  · have := hm5.lt
    omega
  · exact (World.cell?_setCell_other _ _ _ _ (by simp)).trans p0
  · exact (World.cell?_setCell_other _ _ _ _ (by simp)).trans p1
  · rw [far, ho.cellAt 0 (by decide)]
    rfl
  · rw [far, ho.cellAt 1 (by decide)]
    rfl
  · rw [far, ho.cellAt 2 (by decide)]
    rfl
  · rw [World.frozen?_setCell, World.frozen?_setCell, ho.frozenAt]
set_option maxRecDepth 6000 in
theorem put_first (s : ByteArray) (v : Int) (b B : Nat) (w : World) (hs : s.size ≤ maxLen) (hb : b < w.heap.size) (hB : B ≤ b)
    (c0 : w.cell? ⟨b, 0, none⟩ = some (.slice none 0 0)) (c1 : w.cell? ⟨b, 1, none⟩ = some (.map none)) (c2 : w.cell? ⟨b, 2, none⟩ = some (.int .i64 0))
    (f0 : w.frozen? ⟨b, 0, none⟩ = false) (f1 : w.frozen? ⟨b, 1, none⟩ = false) (f2 : w.frozen? ⟨b, 2, none⟩ = false) :
    Calls Tryd.prog 5 #[.pointer (some ⟨b, 0, none⟩), .string s, .int .i64 v] w fun e w' => e = .returned (.bool true) ∧ One w' B b s v ∧ Below B w w' := by
  have hmm := @run_makeMap Tryd.prog
  have hnil := mapnil
  go_enter Tryd.func5, Tryd.ntmps5
  go_wp2_with fail
  refine (holdable_str s _).mono ?_
  rintro e w1 ⟨rfl, hb1⟩
  go_wp2_with fail
  refine (find_none s b _ hs (Nat.lt_of_lt_of_le hb hb1.size) ((hb1.cell (p := ⟨b, 1, none⟩) hb).trans c1)).mono ?_
  rintro e w2 ⟨rfl, hb2⟩
  have B2 := hb1.trans (hb2.mono hb1.size)
  clear hb2
  have c0' := (B2.cell (p := ⟨b, 0, none⟩) hb).trans c0
  have c1' := (B2.cell (p := ⟨b, 1, none⟩) hb).trans c1
  have c2' := (B2.cell (p := ⟨b, 2, none⟩) hb).trans c2
  have f0' := (B2.frozen (p := ⟨b, 0, none⟩) hb).trans f0
  have f1' := (B2.frozen (p := ⟨b, 1, none⟩) hb).trans f1
  have f2' := (B2.frozen (p := ⟨b, 2, none⟩) hb).trans f2
  have hb2 : b < w2.heap.size := Nat.lt_of_lt_of_le hb B2.size
  have hne : ¬ b = w2.heap.size := by omega
  have d0 := fun o => (World.cell?_alloc_lt (w := w2) (o := o) (a := ⟨b, 0, none⟩) hb2).trans c0'
  have d1 := fun o => (World.cell?_alloc_lt (w := w2) (o := o) (a := ⟨b, 1, none⟩) hb2).trans c1'
  have d2 := fun o => (World.cell?_alloc_lt (w := w2) (o := o) (a := ⟨b, 2, none⟩) hb2).trans c2'
  have g0 := fun o => (World.frozen?_alloc_old (w := w2) (o := o) (a := ⟨b, 0, none⟩) hne).trans f0'
  have g1 := fun o => (World.frozen?_alloc_old (w := w2) (o := o) (a := ⟨b, 1, none⟩) hne).trans f1'
  have g2 := fun o => (World.frozen?_alloc_old (w := w2) (o := o) (a := ⟨b, 2, none⟩) hne).trans f2'
  go_wp2_with fail
  have w3 : ∃ w3, ((w2.setCell ⟨b, 1, none⟩ (.map (some w2.heap.size))).alloc (Obj.map #[] 0)) = w3 ∧ w3.cell? ⟨b, 0, none⟩ = some (.slice none 0 0) ∧ w3.cell? ⟨b, 1, none⟩ = some (.map (some w2.heap.size)) ∧ w3.cell? ⟨b, 2, none⟩ = some (.int .i64 0) ∧ w3.frozen? ⟨b, 0, none⟩ = false ∧ w3.frozen? ⟨b, 2, none⟩ = false ∧ w3.heap.size = w2.heap.size + 1 ∧
      w3.ownsMap Tryd.prog 9 (plainElem (H := Unit) Tryd.prog 3) w2.heap.size 0 (.map []) ∧ Below B w2 w3 := by
    refine ⟨_, rfl, ?_, ?_, ?_, ?_, ?_, by simp, ?_, ?_⟩
    · exact (cs_other hb2 (by decide)).trans c0'
    · exact cs_same hb2 c1'
    · exact (cs_other hb2 (by decide)).trans c2'
    · exact (fs_any hne).trans f0'
    · exact (fs_any hne).trans f2'
    · have := World.ownsMap_made (w2.setCell ⟨b, 1, none⟩ (.map (some w2.heap.size))) Tryd.prog 9 (plainElem (H := Unit) Tryd.prog 3)
      simpa using this
    · exact ((Below.refl _ _).setCell (p := ⟨b, 1, none⟩) hB _).alloc (by simp; omega) _
  obtain ⟨w3, e3, a0, a1, a2, z0, z2, s3, hown3, B3⟩ := w3
  rw [e3]
  clear e3 d0 d1 d2 g0 g1 g2 c0' c1' c2' f0' f1' f2' hmm hnil
  obtain ⟨w4, hrun, hown4, hg4⟩ := hown3.drew.update law Tryd.underlying38 (by decide) (Go.WideMaps.keyOf_string_mk Tryd.underlying9 hs) (plainElem_int (q := .i64) Tryd.underlying3 (a := 0) (by decide))
  go_region
  have hb3 : b < w3.drew.heap.size := by show b < w3.heap.size; omega
  have hb4 : b < w4.heap.size := Nat.lt_of_lt_of_le hb3 hg4.size
  have nb : (some b : Option Nat) ≠ some w2.heap.size := by simp; omega
  have k0 := (hg4.cell_far ⟨b, 0, none⟩ hb3 nb).trans a0
  have k1 := (hg4.cell_far ⟨b, 1, none⟩ hb3 nb).trans a1
  have k2 := (hg4.cell_far ⟨b, 2, none⟩ hb3 nb).trans a2
  have l0 := (hg4.frozen_far ⟨b, 0, none⟩ hb3 nb).trans z0
  have l2 := (hg4.frozen_far ⟨b, 2, none⟩ hb3 nb).trans z2
  have B4 : Below B w2 w4 := (B3.drew).grown hg4 (by have := B3.size; show B ≤ w3.heap.size; omega) (fun q hq => by cases hq; omega)
  clear hrun hg4 a0 a1 a2 z0 z2
  obtain ⟨i0, hi0, hz0, hz1, hz2⟩ := info_parts infoR
  go_wp2_with fail
  go_region_law (refine step_append_own rfl _ _ 37 rfl (w4.heap.size) 45 i0 _ 3 32 Tryd.underlying37 hi0 hz0 hz1 hz2 rfl (by decide) (.slice none 0 0) 0 [] (by simp [Act.eval]) (World.ownsRow_nil _ _ _ _) ⟨w4.heap.size, 0, none⟩ 1 1 [.int .i64 0, .string s, .int .i64 v] (by simp [Act.eval]) rfl (cells3 _ _ _ _ _) (by simp [Value.oneCell']) (by decide) (by decide) (by simp) ?_; intro v5 w5 ho5 hg5 hn5; obtain ⟨g, cap, rfl⟩ := own_shape ho5; have m0 := (kept_ad hg5 0 hb4 (by simp [Value.ownBlock])).1.trans k0; have m1 := (kept_ad hg5 1 hb4 (by simp [Value.ownBlock])).1.trans k1; have m2 := (kept_ad hg5 2 hb4 (by simp [Value.ownBlock])).1.trans k2; have n0 := (kept_ad hg5 0 hb4 (by simp [Value.ownBlock])).2.trans l0; have n2 := (kept_ad hg5 2 hb4 (by simp [Value.ownBlock])).2.trans l2)
  all_goals (
    have hb5 : b < w5.heap.size := World.block_lt_of_cell? w5 ⟨b, 0, none⟩ m0
    have p1 := (World.cell?_setCell_other w5 ⟨b, 0, none⟩ ⟨b, 1, none⟩ (.slice (some ⟨g, 0, none⟩) 1 cap) (by simp)).trans m1
    have p2 := (World.cell?_setCell_other w5 ⟨b, 0, none⟩ ⟨b, 2, none⟩ (.slice (some ⟨g, 0, none⟩) 1 cap) (by simp)).trans m2
    have p0 := World.cell?_setCell_same w5 ⟨b, 0, none⟩ (.slice (some ⟨g, 0, none⟩) 1 cap) m0
    go_wp2)
  all_goals go_ret
  all_goals exact ⟨rfl, one_of hs hb5 p0 p1 p2 ho5 hown4 hg5 hb4 (by omega) hB, (B2.mono (by omega)).trans ((B4.alloc (by have := B4.size; omega) _).drew.grown hg5 (by simp; have := B4.size; omega) (fun q hq => by cases hq) |>.setCell (p := ⟨b, 0, none⟩) hB _ |>.setCell (p := ⟨b, 2, none⟩) hB _)⟩
theorem one_c {s : ByteArray} {c : Int} (h : ((DataW.map (H := Unit) []).put (.string s.data.toList) (.lit (.int .i64 0))).atKey (.string s.data.toList) (.lit (.int .i64 0)) = .lit (.int .i64 c)) : c = 0 := by
  rw [Maps.atKey_put_same ⟨_, rfl⟩ (show WideAt.IsKeyLit (.string s.data.toList) from trivial)] at h
  simp at h
  exact h.symm
theorem bs_one {s : ByteArray} {v : Int} {w w' : World} {e : Ending} (h : BsPost [(0, s, v)] 1 0 w e w') : e = .returned (.tuple #[.int .i64 0, .bool true]) ∧ Below w.heap.size w w' := by
  obtain ⟨i, f, q1, q2, q3, q4, rfl, hb⟩ := h
  have hi : i = 0 := by
    rcases Nat.eq_zero_or_pos i with h0 | h0
    · exact h0
    · have := q2 0 (0, s, v) h0 rfl
      simp at this
  subst hi
  have hf : f = true := q4.2 ⟨(0, s, v), rfl, rfl⟩
  subst hf
  exact ⟨rfl, hb⟩
set_option maxRecDepth 6000 in
theorem put_again (s : ByteArray) (v u : Int) (b B : Nat) (w : World) (hs : s.size ≤ maxLen) (hB : B ≤ w.heap.size) (h : One w B b s v) :
    Calls Tryd.prog 5 #[.pointer (some ⟨b, 0, none⟩), .string s, .int .i64 u] w fun e w' => e = .returned (.bool false) ∧ One w' B b s u ∧ Below B w w' := by
  obtain ⟨g, cap, m, hb, hm, hg, hbg, hmg, hBg, c0, c1, hown, r0, r1, r2, fr⟩ := h
  have hR : Rws w (some ⟨g, 0, none⟩) 1 [(0, s, v)] := ⟨rfl, .inr ⟨g, 0, rfl, hg, fun i hi => by
    obtain rfl : i = 0 := by omega
    exact ⟨_, rfl, r0, r1, r2⟩⟩⟩
  have hi : Hid (Rising [(0, s, v)]) := by
    intro k l r r' hkl _ hl
    have := (List.getElem?_eq_some_iff.1 hl).1
    simp at this
    omega
  go_enter Tryd.func5, Tryd.ntmps5
  go_wp2_with fail
  refine (holdable_str s _).mono ?_
  rintro e w1 ⟨rfl, hb1⟩
  have hown1 : w1.ownsMap Tryd.prog 9 (plainElem (H := Unit) Tryd.prog 3) m 1 ((DataW.map []).put (.string s.data.toList) (.lit (.int .i64 0))) := by
    obtain ⟨es, clock, hbk, F1, hle, hD⟩ := hown
    exact ⟨es, clock, by rw [hb1.block m hm]; exact hbk, F1, hle, hD⟩
  go_wp2_with fail
  refine (find_one s b m _ 1 cap 1 [(0, s, v)] _ w1 hs (Nat.lt_of_lt_of_le hb hb1.size) ((hb1.cell (p := ⟨b, 0, none⟩) hb).trans c0) ((hb1.cell (p := ⟨b, 1, none⟩) hb).trans c1) (Nat.lt_of_lt_of_le hm hb1.size) hown1 (hR.below hb1) (by decide) hi).mono ?_
  rintro e w2 (⟨hh, _⟩ | ⟨c, _, hat, hbs⟩)
  · rw [Maps.has_put_same ⟨_, rfl⟩ (show WideAt.IsKeyLit (.string s.data.toList) from trivial)] at hh
    cases hh
  obtain rfl := one_c hat
  obtain ⟨rfl, hb2⟩ := bs_one hbs
  have B2 := hb1.trans (hb2.mono hb1.size)
  clear hb2 hbs hat hown1
  have c0' := (B2.cell (p := ⟨b, 0, none⟩) hb).trans c0
  have c1' := (B2.cell (p := ⟨b, 1, none⟩) hb).trans c1
  have r0' := (B2.cell (p := ⟨g, 0, none⟩) hg).trans r0
  have r1' := (B2.cell (p := ⟨g, 1, none⟩) hg).trans r1
  have r2' := (B2.cell (p := ⟨g, 2, none⟩) hg).trans r2
  have fr' := (B2.frozen (p := ⟨g, 2, none⟩) hg).trans fr
  go_wp2_with fail
  go_ret
  have far : ∀ p : Addr, g ≠ p.block → (w2.setCell ⟨g, 2, none⟩ (.int .i64 u)).cell? p = w2.cell? p := fun p hp => World.cell?_setCell_far _ ⟨g, 2, none⟩ p _ hp
  have sz : (w2.setCell ⟨g, 2, none⟩ (.int .i64 u)).heap.size = w2.heap.size := by simp
  have s2 := B2.size
  have hown2 : w2.ownsMap Tryd.prog 9 (plainElem (H := Unit) Tryd.prog 3) m 1 ((DataW.map []).put (.string s.data.toList) (.lit (.int .i64 0))) := by
    obtain ⟨es, clock, hbk, F1, hle, hD⟩ := hown
    exact ⟨es, clock, by rw [B2.block m hm]; exact hbk, F1, hle, hD⟩
  refine ⟨rfl, ⟨g, cap, m, by omega, by omega, by omega, hbg, hmg, hBg, (far ⟨b, 0, none⟩ (fun e => hbg e.symm)).trans c0', (far ⟨b, 1, none⟩ (fun e => hbg e.symm)).trans c1', hown2.setCell (a := ⟨g, 2, none⟩) hmg _, ?_, ?_, ?_, ?_⟩, (B2.mono hB).setCell (p := ⟨g, 2, none⟩) hBg _⟩
  · exact (World.cell?_setCell_other _ _ _ _ (by simp)).trans r0'
  · exact (World.cell?_setCell_other _ _ _ _ (by simp)).trans r1'
  · exact World.cell?_setCell_same _ _ _ r2'
  · exact (World.frozen?_setCell _ _ _ _).trans fr'
end Go.Proofs.YtlgmonphhimbdaaDoor.tab
