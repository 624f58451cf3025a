import Derived.Test.YtfjoaifcfmcnfabGreatDoorJoB
import Derived.Test.YtfjoaifcfmcnfabGreatDoorJoP
import Derived.Test.YtfjoaifcfmcnfabGreatDoorVlI
import Derived.Maps.OwnSet
import Derived.Maps.Views
import Derived.StringKeys
namespace Go.Proofs.YtfjoaifcfmcnfabGreatDoor.jsn
open Go.ChangeShapes Go.WideShapes Go.ChangeAt Go.RowKit
open mem vl Go.Maps
open ints (hide unhide)
set_option linter.unusedVariables false
theorem lawS : Keyed Tryz.prog 9 := string_keyed Tryz.underlying9
theorem zeroU (w : World) : (zeroValue 82).run Tryz.prog w = .ok (.agg #[]) w := by kernel_rfl
theorem mapHint (n : Int) (w : World) : (Instr.makeMap 81 (some (.int .i64 n))).run Tryz.prog w = .ok (.map (some w.heap.size)) (w.alloc (.map #[] 0)) := by
  simp [Instr.makeMap, go_sem, run_underlying Tryz.underlying81]
theorem unclean_ok (s : ByteArray) (w : World) (hs : s.size ≤ 9223372036854775807) (hc : cln s = true) :
    Calls Tryz.prog 33 #[.string s] w fun e w' => e = .returned (.tuple #[]) ∧ Below w.heap.size w w' := by
  have C := clean_str s w hs
  have hC : ((((decZ (bytesZ s)).2 : Nat) : Int) == (s.size : Int)) = cln s := rfl
  rw [hC, hc] at C
  clear hC hc
  have C := hide C
  go_enter Tryz.func33, Tryz.ntmps33
  go_wp2_with fail
  refine (unhide C).mono ?_
  rintro e w1 ⟨rfl, b1⟩
  clear C
  go_wp2
  go_end0
  exact ⟨rfl, b1⟩
theorem map_below {H : Type} {P : Program} {k : TypeId} {R : Value → Option (DataW H × List MemPlace)} {w w' : World} {b n : Nat} {D : DataW H} (h : w.ownsMap P k R b n D) (hb : Below w.heap.size w w') : w'.ownsMap P k R b n D := by
  have hlt := h.lt
  obtain ⟨es, clock, hh, r⟩ := h
  exact ⟨es, clock, (hb.block b hlt).trans hh, r⟩
def nms (fls : Fls) : List Lit := fls.list.map fun p => Lit.string p.1.data.toList
theorem nms_key (fls : Fls) (k : Nat) : ∀ x ∈ (nms fls).take k, WideAt.IsKeyLit x := by
  intro x hx
  have := List.mem_of_mem_take hx
  unfold nms at this
  rw [List.mem_map] at this
  obtain ⟨p, _, rfl⟩ := this
  trivial
theorem nms_new {fls : Fls} (hd : (nms fls).Nodup) {k : Nat} {x : Lit} (hx : (nms fls)[k]? = some x) : Maps.has (Maps.setOf (H := Unit) (.agg []) ((nms fls).take k)) x = false := by
  rw [Maps.has_setOf _ _ _ (nms_key fls k), Bool.eq_false_iff]
  intro h
  rw [List.any_eq_true] at h
  obtain ⟨y, hy, e⟩ := h
  have e := WideAt.sameKey_eq e
  subst e
  obtain ⟨hk, hx⟩ := List.getElem?_eq_some_iff.1 hx
  obtain ⟨j, hj, hjy⟩ := List.mem_take_iff_getElem.1 hy
  have := (List.getElem_inj hd).1 (hjy.trans hx.symm)
  omega
theorem nms_snoc {fls : Fls} {k : Nat} {x : Lit} (hx : (nms fls)[k]? = some x) : Maps.setOf (H := Unit) (.agg []) ((nms fls).take (k + 1)) = (Maps.setOf (.agg []) ((nms fls).take k)).put x (.agg []) := by
  rw [List.take_add_one, hx, ← Maps.setOf_snoc]; rfl
theorem storeF (f : Nat) (a : Addr) (w : World) (m : Mode) : (store a (.float .f64 f) m).run Tryz.prog w = stored Tryz.prog w a (.float .f64 f) m := run_store _ _ _ _ _ rfl
set_option maxHeartbeats 4000000 in
set_option maxRecDepth 100000 in
theorem names_ok (fls : Fls) (a : Option Addr) (n c : Nat) (w : World) (h : FlsAt w fls a n) (hn : n ≤ 70368744177664) (hnc : n ≤ c) (hcl : ∀ p ∈ fls.list, cln p.1 = true) (hd : (nms fls).Nodup) :
    Calls Tryz.prog 35 #[.slice a n c] w fun e w' => e = .returned (.tuple #[]) ∧ Below w.heap.size w w' := by
  have hmm := mapHint
  have hsf := storeF
  have hsz := FlsAt.len fls a n h
  go_enter Tryz.func35, Tryz.ntmps35
  go_wp2_with fail
  go_loopw [12] (fun vi wr => ∃ k : Nat, k ≤ n ∧ vi = .int .i64 k ∧ wr.ownsMap Tryz.prog 9 unitElem w.heap.size k (Maps.setOf (H := Unit) (.agg []) ((nms fls).take k)) ∧ Below w.heap.size w wr ∧ w.heap.size + 1 ≤ wr.heap.size) (fun vi _ => n - (intOf vi).toNat)
  case atStart => exact ⟨0, Nat.zero_le _, rfl, World.ownsMap_made _ _ _ _, (Below.refl _ _).alloc (Nat.le_refl _) _, by simp⟩
  case round =>
    obtain ⟨k, hk, rfl, hown, hb, hs1⟩ := hrel
    by_cases hlt : k < n
    · obtain ⟨b, off, nm, v, cs, rfl, hg, hc0, hnm, hr, hv⟩ := FlsAt.get fls _ n h k hlt
      have hbw := World.block_lt_of_cell? w _ hc0
      have hbw : b < w.heap.size := hbw
      cases v with
      | mk kd bb ni f tx ty its fl =>
      unfold VlC at hv
      obtain ⟨ai, nI, ci, af, nf, cf, rfl, -⟩ := hv
      obtain ⟨r0, r1, r2, r3, r4, r5, r6, r7⟩ := hr.eight
      have d (j : Nat) (u : Value) (hj : w.cell? ⟨b, j, none⟩ = some u) : wr.cell? ⟨b, j, none⟩ = some u := (hb.cell (p := ⟨b, j, none⟩) hbw).trans hj
      have c0 := d _ _ hc0
      have c1 := d _ _ r0
      have c2 := d _ _ r1
      have c3 := d _ _ r2
      have c4 := d _ _ r3
      have c5 := d _ _ r4
      have c6 := d _ _ r5
      have c7 := d _ _ r6
      have c8 := d _ _ r7
      have hx : (nms fls)[k]? = some (.string nm.data.toList) := by simp [nms, hg]
      have hnew := nms_new hd hx
      have hsn := hide (nms_snoc hx)
      have hkey : keyOf Tryz.prog 9 (.string nm) = some (.string nm.data.toList) := Go.WideMaps.keyOf_string_mk Tryz.underlying9 hnm
      have U := hide (fun W => unclean_ok nm W (by unfold maxLen at hnm; omega) (hcl _ (List.mem_of_getElem? hg)))
      clear hc0 r0 r1 r2 r3 r4 r5 r6 r7 hr hx hg d hcl hd h hsz
      go_wp2_with fail
      refine (unhide U _).mono ?_
      rintro e w1 ⟨rfl, b1⟩
      clear U c0 c1 c2 c3 c4 c5 c6 c7 c8
      have hs2 : wr.heap.size + 1 ≤ w1.heap.size := by have := b1.size; simp at this; omega
      have x0 : w1.cell? ⟨wr.heap.size, 0, none⟩ = some (.string nm) := by
        rw [b1.cell (p := ⟨wr.heap.size, 0, none⟩) (by simp)]
        simp
      have x1 : ∀ o, (w1.alloc o).cell? ⟨wr.heap.size, 0, none⟩ = some (.string nm) := fun o => (((Below.refl w1.heap.size w1).alloc (Nat.le_refl _) o).cell (p := ⟨wr.heap.size, 0, none⟩) (show wr.heap.size < w1.heap.size by omega)).trans x0
      have hown1 := map_below (hown.alloc _) b1
      have hb1 : Below w.heap.size w w1 := (hb.alloc (by omega) _).trans (b1.mono (by simp; omega))
      have hsz1 : w.heap.size < w1.heap.size := by omega
      clear hown hb b1 hmm hsf
      go_wp2_with (first
        | (at_lookup; refine wpList_lookup_own_unit _ rfl _ _ 81 rfl 9 82 lawS Tryz.underlying81 (zeroU _) w.heap.size k _ rfl hown1 _ _ rfl hkey ?_; rw [hnew])
        | (at_mapUpdate; refine wpList_mapUpdate_own _ rfl _ _ _ 81 rfl 9 82 lawS Tryz.underlying81 (unitElem (H := Unit)) w.heap.size k _ rfl (hown1.alloc _) (by unfold maxLen; omega) _ _ _ rfl rfl hkey _ [] unitElem_mk ?_; intro w2 hown2 hgrow2)
        | go_in)
      have s2 := hgrow2.size
      simp at s2
      refine ⟨⟨k + 1, by omega, rfl, ?_, ?_, by omega⟩, ?_⟩
      · rw [unhide hsn]; exact hown2
      · exact (hb1.alloc (by omega) _).grown hgrow2 (by simp; omega) (fun j hj => by cases hj; exact Nat.le_refl _)
      · simp only [intOf]
        omega
    · go_wp2
      go_end0
      exact ⟨rfl, hb⟩
end Go.Proofs.YtfjoaifcfmcnfabGreatDoor.jsn
