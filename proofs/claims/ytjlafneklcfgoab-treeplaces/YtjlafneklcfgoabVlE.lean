import Derived.Test.YtjlafneklcfgoabVlM
import Derived.Outline
import Derived.Laws.Pointers
import Derived.Laws.Rows
import Derived.Deep.RegionHeld3
namespace Go.Proofs.Ytjlafneklcfgoab.vl
open Go.ChangeShapes Go.WideShapes Go.ChangeAt Go.RowKit
set_option linter.unusedVariables false
def Hid (p : Prop) : Prop := p
theorem hide {p : Prop} (h : p) : Hid p := h
theorem unhide {p : Prop} (h : Hid p) : p := h
/-- Copy at a value: a value of its own, alike -/
def CopyAt (v : Vl) : Prop := ∀ (cs : List Value) (w : World), VlC w v cs → Calls Try.prog 29 #[.agg cs.toArray] w fun e w' => ∃ (ds : List Value) (F : List Nat), e = .returned (.agg ds.toArray) ∧ OwC w' v ds F ∧ F.Nodup ∧ (∀ b ∈ F, w.heap.size ≤ b ∧ b < w'.heap.size) ∧ Below w.heap.size w w' ∧ Fz w' F
theorem makeV (n : Nat) (w : World) (hn : n ≤ 1256584717458) : ∃ Z : Array Value, Z.size = n * 8 ∧ (Instr.makeSlice 24 (.int .i64 n) (.int .i64 n)).run Try.prog w = .ok (.slice (some ⟨w.heap.size, 0, none⟩) n n) (w.alloc (.cells Z 27)) := by
  have hin : (Try.prog.info? 27).map (fun i => (i.bytes, i.size, i.zero.isSome)) = some (112, 8, true) := by kernel_rfl
  cases hq : Try.prog.info? 27 with
  | none => simp [hq] at hin
  | some i =>
    simp [hq] at hin
    obtain ⟨h1, h2, h3⟩ := hin
    obtain ⟨z, hz⟩ := Option.isSome_iff_exists.1 h3
    have := run_make (P := Try.prog) w 24 27 i z Try.underlying24 hq hz .i64 .i64 n n (by omega) (Int.le_refl _) (by rw [h1]; omega) (by omega)
    simp only [Int.toNat_natCast, h2] at this
    exact ⟨_, size_madeCells _ _, this⟩
theorem loadV (w : World) (b o : Nat) (cs : List Value) (h : w.rangeAt b o cs) (h8 : cs.length = 8) : (loadCellsFrom ⟨b, o, none⟩ 0 8 #[]).run Try.prog w = .ok cs.toArray w := by
  have := run_loadCells_list (P := Try.prog) w ⟨b, o, none⟩ cs (fun j v hv => by rw [Addr.add_mid]; exact h j v hv)
  rw [h8] at this
  simpa [loadCells] using this
set_option maxHeartbeats 6000000 in
set_option maxRecDepth 6000 in
theorem each_ok (its : Vls) (ih : ∀ v ∈ its.list, CopyAt v) (a : Addr) (n c : Nat) (w : World) (hI : VlsAt w its (some a) n) (hn : n ≤ 1256584717458) : Calls Try.prog 58 #[.slice (some a) n c, .func (.func 29) #[] #[]] w fun e w' => ∃ (p : Nat) (G : List Nat), e = .returned (.slice (some ⟨p, 0, none⟩) n n) ∧ OwsIn w' its p 0 n G ∧ (p :: G).Nodup ∧ (∀ b ∈ p :: G, w.heap.size ≤ b ∧ b < w'.heap.size) ∧ Below w.heap.size w w' ∧ Fz w' (p :: G) := by
  have en : ∀ args w, (callFunc 29 args).run Try.prog w = .ok (.enter 29 args) w := fun _ _ => rfl
  have hnil : ∀ (w : World) (a : Option Addr) (n c n' c' : Nat), (binOp .eql 24 (.slice a n c) (.slice none n' c')).run Try.prog w = .ok (.bool a.isNone) w := fun w a n c n' c' => Lib.run_eql_slice_nil w _ _ a n c n' c' Try.underlying24
  have hlen := VlsAt.len its _ _ hI
  obtain ⟨Z, hZ, hmk⟩ := makeV n w hn
  have hL := hide hlen
  have hZ' := hide hZ
  clear hlen hZ
  go_enter Try.func58, Try.ntmps58
  go_wp2_with fail
  clear hmk
  go_loopw [15] (fun vi wr => ∃ (k : Nat) (G : List Nat), k ≤ n ∧ vi = .int .i64 k ∧ Hid (OwsIn wr (Vls.of (its.list.take k)) w.heap.size 0 k G) ∧ G.Nodup ∧ (∀ b ∈ G, w.heap.size < b ∧ b < wr.heap.size) ∧ Hid (wr.there w.heap.size 0 (n * 8)) ∧ Below w.heap.size w wr ∧ w.heap.size < wr.heap.size ∧ Hid (Fz wr (w.heap.size :: G))) (fun vi _ => n - (intOf vi).toNat)
  case atStart => exact ⟨0, [], Nat.zero_le _, rfl, hide (by simp only [List.take_zero, Vls.of]; unfold OwsIn; exact ⟨rfl, rfl⟩), List.nodup_nil, by simp, hide (there_new (unhide hZ')), (Below.refl _ _).alloc (Nat.le_refl _) _, by simp, hide Fz.new⟩
  case round =>
    obtain ⟨k, G, hk, rfl, hO, hnd, hG, hT, hB, hs, hZ3⟩ := hrel
    by_cases hlt : k < n
    · obtain ⟨b, off, v, cs, hab, hg, hr, hv⟩ := VlsAt.get its _ n hI k hlt
      obtain rfl : a = ⟨b, off, none⟩ := Option.some.inj hab
      clear hab
      have hcop := hide (ih v (List.mem_of_getElem? hg))
      have hr' : wr.rangeAt b (off + k * 8) cs := Row8.below hr hB
      have h8 := hv.cells
      have h1 := hv.one
      have hi8 : (Try.prog.info? 27).map (·.size) = some cs.length := by rw [h8]; exact infoV
      have hi8' : (Try.prog.info? 27).map (·.size) = some cs.toArray.size := by simp [h8, infoV]
      have hz8 : cs.toArray.size = 8 := by simp [h8]
      have ki : (k : Int) < (n : Int) := by omega
      have HH := hide (And.intro hi8 (And.intro hi8' (And.intro hz8 h8)))
      clear hr hi8 hi8' hz8 h8
      go_wp2_with (first
        | refine wpList_load_mid (by rfl) 27 _ (by rfl) b (off + k * 8) (by rfl) cs _ hr' Try.underlying27 (by rfl) (unhide HH).1 ?_
        | refine wpList_store_mid (by rfl) 27 _ _ (by rfl) wr.heap.size 0 cs.toArray (by rfl) (by rfl) (there_new (by rw [(unhide HH).2.2.1]; rfl)) (unhide HH).2.1 h1 ?_
        | refine wpList_load_mid (by rfl) 27 _ (by rfl) wr.heap.size 0 (by rfl) cs _ (World.rangeAt_setCells_same _ _ _ _ (there_new (by show _ = cs.length; rw [(unhide HH).2.2.2]; rfl))) Try.underlying27 (by rfl) (unhide HH).1 ?_)
      obtain ⟨W2, e2⟩ : ∃ W2, W2 = ((wr.alloc (.cells #[Value.int IntKind.i64 0, Value.bool false, Value.int IntKind.i64 0, Value.float FloatKind.f64 0, Value.string { data := #[] }, Value.string { data := #[] }, Value.slice none 0 0, Value.slice none 0 0] 27)).setCells wr.heap.size 0 cs) := ⟨_, rfl⟩
      have b2 : Below wr.heap.size wr W2 := by rw [e2]; exact below_setCells _ _ _ _ ((Below.refl _ _).alloc (Nat.le_refl _) _) (Nat.le_refl _)
      rw [← e2]
      clear e2
      have hv2 : VlC W2 v cs := VlC.below (hB.trans (b2.mono hB.size)) v cs hv
      refine ((unhide hcop) cs W2 hv2).mono ?_
      rintro e w3 ⟨ds, F, rfl, hO3, hnd3, hF3, b3, z3⟩
      have Z3 := hide z3
      clear z3
      have d8 := (OwC.read v ds F hO3).cells
      have d1 := (OwC.read v ds F hO3).one
      have b23 : Below wr.heap.size wr w3 := b2.trans (b3.mono b2.size)
      have hT3 : w3.there w.heap.size (k * 8) ds.toArray.size := there_sub (there_below (unhide hT) b23 hs) (Nat.zero_le _) (by simp [d8]; omega)
      have hi8 : (Try.prog.info? 27).map (·.size) = some ds.toArray.size := by simp [d8, infoV]
      have D8 := hide d8
      have HI := hide hi8
      have HT := hide hT3
      have HO3 := hide hO3
      clear hO3 hT3 hi8 d8 hcop HH hr' hv2
      go_wp2_with (first
        | refine wpList_store_mid (by rfl) 27 _ _ (by rfl) w.heap.size (k * 8) ds.toArray (by rfl) (by rfl) (unhide HT) (unhide HI) d1 ?_)
      have hfresh : ∀ b' ∈ F, wr.heap.size ≤ b' ∧ b' < w3.heap.size := fun b' hb' => ⟨Nat.le_trans b2.size (hF3 b' hb').1, (hF3 b' hb').2⟩
      have hpG : w.heap.size ∉ G := fun h => absurd (hG _ h).1 (Nat.lt_irrefl _)
      have hpF : w.heap.size ∉ F := fun h => absurd (hfresh _ h).1 (by omega)
      have hag : Agree G wr w3 := Agree.of_below b23 (fun b' hb' => (hG b' hb').2)
      have hO4 : OwsIn (w3.setCells w.heap.size (k * 8) ds) (Vls.of (its.list.take k)) w.heap.size 0 k G :=
        OwsIn.keep _ _ _ _ _ (hag.trans (agree_setCells w3 hpG)) (fun o ho => by
          rw [World.cell?_setCells_out _ _ _ _ _ (fun _ _ => .inl (by show o < k * 8; omega))]
          exact b23.cell (p := ⟨w.heap.size, o, none⟩) hs) (unhide hO)
      have hrow : Row8 (w3.setCells w.heap.size (k * 8) ds) w.heap.size (0 + k * 8) ds := by
        rw [Nat.zero_add]
        exact World.rangeAt_setCells_same w3 _ _ ds (by have := unhide HT; simpa using this)
      have hown : OwC (w3.setCells w.heap.size (k * 8) ds) v ds F := OwC.agree v ds F (agree_setCells w3 hpF) (unhide HO3)
      have hsn := OwsIn.snoc (its.list.take k) _ _ _ _ hO4 hrow hown
      rw [show its.list.take k ++ [v] = its.list.take (k + 1) by rw [List.take_add_one, hg]; rfl] at hsn
      refine ⟨⟨k + 1, G ++ F, by omega, by go_num, hide hsn, ?_, ?_, hide (World.there_setCells (there_below (unhide hT) b23 hs) _ _ _), below_setCells _ _ _ _ (hB.trans (b23.mono hB.size)) (Nat.le_refl _), by rw [size_setCells]; exact Nat.lt_of_lt_of_le hs b23.size, hide (Fz.setCells (Fz.app (F := w.heap.size :: G) ((unhide hZ3).below b23 (fun b' hb' => by
        rcases List.mem_cons.1 hb' with h | h
        · rw [h]; exact hs
        · exact (hG b' h).2)) (unhide Z3)) _ _ _)⟩, by simp only [intOf]; omega⟩
      · rw [List.nodup_append]
        exact ⟨hnd, hnd3, fun x hx y hy e => by have h1 := (hG x hx).2; have h2 := (hfresh y hy).1; omega⟩
      · intro b' hb'
        rw [size_setCells]
        rcases List.mem_append.1 hb' with h | h
        · exact ⟨(hG b' h).1, Nat.lt_of_lt_of_le (hG b' h).2 b23.size⟩
        · exact ⟨Nat.lt_of_lt_of_le hs (hfresh b' h).1, (hfresh b' h).2⟩
    · obtain rfl : k = n := by omega
      go_wp2
      go_ret
      refine ⟨_, G, rfl, ?_, List.nodup_cons.2 ⟨fun h => absurd (hG _ h).1 (Nat.lt_irrefl _), hnd⟩, ?_, hB, unhide hZ3⟩
      · have := unhide hO
        rwa [List.take_of_length_le (Nat.le_of_eq (unhide hL)), Vls.of_list] at this
      · intro b' hb'
        rcases List.mem_cons.1 hb' with rfl | h
        · exact ⟨Nat.le_refl _, hs⟩
        · exact ⟨Nat.le_of_lt (hG b' h).1, (hG b' h).2⟩
end Go.Proofs.Ytjlafneklcfgoab.vl
