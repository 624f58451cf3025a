import Derived.Test.YtechaplindbfoaaGreatDoorJre3
import Derived.Maps.OwnSet
import Derived.Maps.Views
import Derived.StringKeys
namespace Go.Proofs.YtechaplindbfoaaGreatDoor.og
open Go.ChangeShapes Go.WideShapes Go.ChangeAt Go.RowKit
open vl hiding cB cFl cS cF cI cK cIt
open Go.Maps
set_option linter.unusedVariables false
set_option linter.unusedSimpArgs false
theorem lawS : Keyed Tryz.prog 9 := string_keyed Tryz.underlying9
theorem zeroU (w : World) : (zeroValue 108).run Tryz.prog w = .ok (.agg #[]) w := by kernel_rfl
theorem mapHint (n : Int) (w : World) : (Instr.makeMap 107 (some (.int .i64 n))).run Tryz.prog w = .ok (.map (some w.heap.size)) (w.alloc (.map #[] 0)) := by
  simp [Instr.makeMap, go_sem, run_underlying Tryz.underlying107]
theorem map_below {H : Type} {P : Program} {k : TypeId} {R : Value → Option (DataW H × List MemPlace)} {w w' : World} {b n : Nat} {D : DataW H} (h : w.ownsMap P k R b n D) (hb : Below w.heap.size w w') : w'.ownsMap P k R b n D := by
  have hlt := h.lt
  obtain ⟨es, clock, hh, r⟩ := h
  exact ⟨es, clock, (hb.block b hlt).trans hh, r⟩
def nms (fls : Fls) : List Lit := fls.list.map fun p => Lit.string p.1.data.toList
theorem nms_key (fls : Fls) (k : Nat) : ∀ x ∈ (nms fls).take k, WideAt.IsKeyLit x := by
  intro x hx
  have := List.mem_of_mem_take hx
  unfold nms at this
  rw [List.mem_map] at this
  obtain ⟨p, _, rfl⟩ := this
  trivial
def seenN (fls : Fls) (k : Nat) : List (List UInt8) := ((fls.list.map (·.1)).take k).map (fun s => s.data.toList)
theorem nms_has (fls : Fls) (k : Nat) (nm : ByteArray) : Maps.has (Maps.setOf (H := Unit) (.agg []) ((nms fls).take k)) (.string nm.data.toList) = (seenN fls k).contains nm.data.toList := by
  rw [Maps.has_setOf _ _ _ (nms_key fls k), List.contains_eq_any_beq]
  have e : (nms fls).take k = (seenN fls k).map Lit.string := by
    unfold nms seenN
    rw [← List.map_take, ← List.map_take, List.map_map, List.map_map]
    rfl
  rw [e, List.any_map]
  congr 1
  funext x
  show (Lit.string x).sameKey (.string nm.data.toList) = (nm.data.toList == x)
  by_cases h : x = nm.data.toList
  · subst h
    rw [WideAt.sameKey_self (a := Lit.string nm.data.toList) (by trivial)]
    simp
  · rw [Maps.sameKey_ne (fun e => h (by cases e; rfl))]
    symm
    simpa using fun e => h e.symm
theorem nms_snoc {fls : Fls} {k : Nat} {x : Lit} (hx : (nms fls)[k]? = some x) : Maps.setOf (H := Unit) (.agg []) ((nms fls).take (k + 1)) = (Maps.setOf (.agg []) ((nms fls).take k)).put x (.agg []) := by
  rw [List.take_add_one, hx, ← Maps.setOf_snoc]; rfl
theorem nmF_step {fls : Fls} {k : Nat} {nm : ByteArray} {v : Vl} (hg : fls.list[k]? = some (nm, v)) : nmF (seenN fls k) ((fls.list.map (·.1)).drop k) = if clnS nm = false then 1 else if (seenN fls k).contains nm.data.toList = true then 5 else nmF (seenN fls (k + 1)) ((fls.list.map (·.1)).drop (k + 1)) := by
  obtain ⟨hk, e⟩ := List.getElem?_eq_some_iff.1 hg
  have hk' : k < (fls.list.map (·.1)).length := by simpa using hk
  have e' : (fls.list.map (·.1))[k] = nm := by simp [e]
  rw [List.drop_eq_getElem_cons hk', e', nmF]
  have hs : seenN fls (k + 1) = seenN fls k ++ [nm.data.toList] := by
    unfold seenN
    rw [List.take_add_one, List.getElem?_eq_getElem hk', e', List.map_append]
    rfl
  rw [hs]
theorem clean_ok (s : ByteArray) (w : World) (hs : s.size ≤ 9223372036854775807) : Calls Tryz.prog 31 #[.string s] w fun e w' => e = .returned (.bool (clnS s)) ∧ Below w.heap.size w w' := mem.clean_str s w hs
set_option maxHeartbeats 4000000 in
set_option maxRecDepth 100000 in
theorem names_ok (fls : Fls) (a : Option Addr) (n c : Nat) (w : World) (h : FlsAt w fls a n) (hn : n ≤ 1099511627776) :
    Calls Tryz.prog 80 #[.slice a n c] w fun e w' => e = .returned (.int .i64 (nmF [] (fls.list.map (·.1)))) ∧ Below w.heap.size w w' := by
  have hmm := mapHint
  have hsf := storeF
  have hsz := FlsAt.len fls a n h
  obtain ⟨R, hR⟩ : ∃ R, nmF [] (fls.list.map (·.1)) = R := ⟨_, rfl⟩
  rw [hR]
  have HR := hide hR
  clear hR
  have HZ := hide hsz
  clear hsz
  go_enter Tryz.func80, Tryz.ntmps80
  go_wp2_with fail
  go_loopw [13] (fun vi wr => ∃ k : Nat, k ≤ n ∧ vi = .int .i64 k ∧ vl.Hid (nmF (seenN fls k) ((fls.list.map (·.1)).drop k) = R) ∧ wr.ownsMap Tryz.prog 9 unitElem w.heap.size k (Maps.setOf (H := Unit) (.agg []) ((nms fls).take k)) ∧ Below w.heap.size w wr ∧ w.heap.size + 1 ≤ wr.heap.size) (fun vi _ => n - (intOf vi).toNat)
  case atStart => exact ⟨0, Nat.zero_le _, rfl, hide (unhide HR), World.ownsMap_made _ _ _ _, (Below.refl _ _).alloc (Nat.le_refl _) _, by simp⟩
  case round =>
    obtain ⟨k, hk, rfl, hres, hown, hb, hs1⟩ := hrel
    by_cases hlt : k < n
    · obtain ⟨b, off, nm, v, cs, rfl, hg, hc0, hnm, hr, hv⟩ := FlsAt.get fls _ n h k hlt
      have hbw := World.block_lt_of_cell? w _ hc0
      have hbw : b < w.heap.size := hbw
      cases v with
      | mk kd bb ni f tx ty its fl =>
      unfold VlC at hv
      obtain ⟨ai, nI, ci, af, nf, cf, rfl, -⟩ := hv
      obtain ⟨r0, r1, r2, r3, r4, r5, r6, r7⟩ := hr.eight
      have d (j : Nat) (u : Value) (hj : w.cell? ⟨b, j, none⟩ = some u) : wr.cell? ⟨b, j, none⟩ = some u := (hb.cell (p := ⟨b, j, none⟩) hbw).trans hj
      have c0 := d _ _ hc0
      have c1 := d _ _ r0
      have c2 := d _ _ r1
      have c3 := d _ _ r2
      have c4 := d _ _ r3
      have c5 := d _ _ r4
      have c6 := d _ _ r5
      have c7 := d _ _ r6
      have c8 := d _ _ r7
      have hx : (nms fls)[k]? = some (.string nm.data.toList) := by simp [nms, hg]
      have hstep := nmF_step hg
      rw [unhide hres] at hstep
      have hhas := nms_has fls k nm
      have hsn := hide (nms_snoc hx)
      have hkey : keyOf Tryz.prog 9 (.string nm) = some (.string nm.data.toList) := Go.WideMaps.keyOf_string_mk Tryz.underlying9 hnm
      have U := hide (fun W => clean_ok nm W (by unfold maxLen at hnm; omega))
      generalize (seenN fls k).contains nm.data.toList = C at *
      generalize clnS nm = L at *
      have HS := hide hstep
      clear hstep hc0 r0 r1 r2 r3 r4 r5 r6 r7 hr hx hg d h hres
      have ki : (k : Int) < (n : Int) := by omega
      go_wp2_with fail
      refine (unhide U _).mono ?_
      rintro e w1 ⟨rfl, b1⟩
      clear U c0 c1 c2 c3 c4 c5 c6 c7 c8
      have hs2 : wr.heap.size + 1 ≤ w1.heap.size := by have := b1.size; simp at this; omega
      have x0 : w1.cell? ⟨wr.heap.size, 0, none⟩ = some (.string nm) := by
        rw [b1.cell (p := ⟨wr.heap.size, 0, none⟩) (by simp)]
        simp
      have x1 : ∀ o, (w1.alloc o).cell? ⟨wr.heap.size, 0, none⟩ = some (.string nm) := fun o => (((Below.refl w1.heap.size w1).alloc (Nat.le_refl _) o).cell (p := ⟨wr.heap.size, 0, none⟩) (show wr.heap.size < w1.heap.size by omega)).trans x0
      have hown1 := map_below (hown.alloc _) b1
      have hb1 : Below w.heap.size w w1 := (hb.alloc (by omega) _).trans (b1.mono (by simp; omega))
      have hsz1 : w.heap.size < w1.heap.size := by omega
      clear hown hb b1 hmm hsf
      cases L with
      | false =>
        go_wp2
        go_ret
        exact ⟨by rw [unhide HS]; rfl, hb1⟩
      | true =>
        cases C with
        | true =>
          go_wp2_with (first
            | (at_lookup; refine wpList_lookup_own_unit _ rfl _ _ 107 rfl 9 108 lawS Tryz.underlying107 (zeroU _) w.heap.size k _ rfl hown1 _ _ rfl hkey ?_; rw [hhas])
            | go_in)
          go_ret
          exact ⟨by rw [unhide HS]; rfl, hb1.alloc (by omega) _⟩
        | false =>
          go_wp2_with (first
            | (at_lookup; refine wpList_lookup_own_unit _ rfl _ _ 107 rfl 9 108 lawS Tryz.underlying107 (zeroU _) w.heap.size k _ rfl hown1 _ _ rfl hkey ?_; rw [hhas])
            | (at_mapUpdate; refine wpList_mapUpdate_own _ rfl _ _ _ 107 rfl 9 108 lawS Tryz.underlying107 (unitElem (H := Unit)) w.heap.size k _ rfl (hown1.alloc _) (by unfold maxLen; omega) _ _ _ rfl rfl hkey _ [] unitElem_mk ?_; intro w2 hown2 hgrow2)
            | go_in)
          have s2 := hgrow2.size
          simp at s2
          refine ⟨⟨k + 1, by omega, rfl, hide (by rw [unhide HS]; rfl), ?_, ?_, by omega⟩, ?_⟩
          · rw [unhide hsn]; exact hown2
          · exact (hb1.alloc (by omega) _).grown hgrow2 (by simp; omega) (fun j hj => by cases hj; exact Nat.le_refl _)
          · simp only [intOf]
            omega
    · have hfin : R = 0 := by
        have := unhide hres
        rw [List.drop_eq_nil_of_le (by rw [List.length_map, unhide HZ]; omega)] at this
        rw [← this, nmF]
      subst hfin
      go_wp2
      go_ret
      exact ⟨rfl, hb⟩
end Go.Proofs.YtechaplindbfoaaGreatDoor.og
