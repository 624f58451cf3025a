import Derived.Test.YtiblkdedbimggaaTeq1
import Derived.Test.YtiblkdedbimggaaRows
import Derived.WalkKit
import Derived.ProofKit
import Derived.OpenShut
import Derived.ShutString
import Derived.Below
import Derived.Outline
import Derived.Laws.Pointers
import Derived.Lib.Bytealg
import Derived.Laws.Externs
import Derived.Laws.Rows
import Derived.Laws.StructEq
import Derived.Deep.RegionHeld3
import Derived.RegionCalls
import Derived.Deep.RegionLaw
import Derived.Deep.QuietTactic
namespace Go.Proofs.Ytiblkdedbimggaa.vl
open Go.ChangeShapes Go.WideShapes Go.ChangeAt Go.RowKit
set_option linter.unusedVariables false
theorem makeM (n : Nat) (w : World) (hn : n ≤ 1099511627776) : ∃ Z : Array Value, Z.size = n * 9 ∧ (Instr.makeSlice 25 (.int .i64 n) (.int .i64 n)).run Try.prog w = .ok (.slice (some ⟨w.heap.size, 0, none⟩) n n) (w.alloc (.cells Z 47)) := by
  have hin : (Try.prog.info? 47).map (fun i => (i.bytes, i.size, i.zero.isSome)) = some (128, 9, true) := by kernel_rfl
  cases hq : Try.prog.info? 47 with
  | none => simp [hq] at hin
  | some i =>
    simp [hq] at hin
    obtain ⟨h1, h2, h3⟩ := hin
    obtain ⟨z, hz⟩ := Option.isSome_iff_exists.1 h3
    have := run_make (P := Try.prog) w 25 47 i z Try.underlying25 hq hz .i64 .i64 n n (by omega) (Int.le_refl _) (by rw [h1]; omega) (by omega)
    simp only [Int.toNat_natCast, h2] at this
    exact ⟨_, size_madeCells _ _, this⟩
theorem row9 {w : World} {b o : Nat} {nm : ByteArray} {cs : List Value} (h : Row8 w b (o + 1) cs) (h0 : w.cell? ⟨b, o, none⟩ = some (.string nm)) : w.rangeAt b o (Value.string nm :: cs) := fun j u hu => by
  cases j with
  | zero => simp at hu; rw [← hu]; exact h0
  | succ j => rw [show o + (j + 1) = o + 1 + j by omega]; exact h j u (by simpa using hu)
set_option maxHeartbeats 6000000 in
set_option maxRecDepth 6000 in
theorem eachM_ok (fls : Fls) (ih : ∀ q ∈ fls.list, CopyAt q.2) (a : Addr) (n c : Nat) (w : World) (hI : FlsAt w fls (some a) n) (hn : n ≤ 1099511627776) : Calls Try.prog 53 #[.slice (some a) n c, .func (.func 61) #[] #[]] w fun e w' => ∃ (p : Nat) (G : List Nat), e = .returned (.slice (some ⟨p, 0, none⟩) n n) ∧ OwfIn w' fls p 0 n G ∧ (p :: G).Nodup ∧ (∀ b ∈ p :: G, w.heap.size ≤ b ∧ b < w'.heap.size) ∧ Below w.heap.size w w' ∧ Fz w' (p :: G) := by
  have en : ∀ args w, (callFunc 61 args).run Try.prog w = .ok (.enter 61 args) w := fun _ _ => rfl
  have hnil : ∀ (w : World) (a : Option Addr) (n c n' c' : Nat), (binOp .eql 25 (.slice a n c) (.slice none n' c')).run Try.prog w = .ok (.bool a.isNone) w := fun w a n c n' c' => Lib.run_eql_slice_nil w _ _ a n c n' c' Try.underlying25
  have hlen := FlsAt.len fls _ _ hI
  obtain ⟨Z, hZ, hmk⟩ := makeM n w hn
  have hL := hide hlen
  have hZ' := hide hZ
  clear hlen hZ
  go_enter Try.func53, Try.ntmps53
  go_wp2_with fail
  clear hmk
  go_loopw [15] (fun vi wr => ∃ (k : Nat) (G : List Nat), k ≤ n ∧ vi = .int .i64 k ∧ Hid (OwfIn wr (Fls.of (fls.list.take k)) w.heap.size 0 k G) ∧ G.Nodup ∧ (∀ b ∈ G, w.heap.size < b ∧ b < wr.heap.size) ∧ Hid (wr.there w.heap.size 0 (n * 9)) ∧ Below w.heap.size w wr ∧ w.heap.size < wr.heap.size ∧ Hid (Fz wr (w.heap.size :: G))) (fun vi _ => n - (intOf vi).toNat)
  case atStart => exact ⟨0, [], Nat.zero_le _, rfl, hide (by simp only [List.take_zero, Fls.of]; unfold OwfIn; exact ⟨rfl, rfl⟩), List.nodup_nil, by simp, hide (there_new (unhide hZ')), (Below.refl _ _).alloc (Nat.le_refl _) _, by simp, hide Fz.new⟩
  case round =>
    obtain ⟨k, G, hk, rfl, hO, hnd, hG, hT, hB, hs, hZ3⟩ := hrel
    by_cases hlt : k < n
    · obtain ⟨b, off, nm, v, cs, hab, hg, hn0, hnz, hr, hv⟩ := FlsAt.get fls _ n hI k hlt
      obtain rfl : a = ⟨b, off, none⟩ := Option.some.inj hab
      clear hab
      have hcop := hide (copyM_ok nm v (ih (nm, v) (List.mem_of_getElem? hg)) cs)
      have hr' : wr.rangeAt b (off + k * 9) (Value.string nm :: cs) := row9 (Row8.below hr hB) (keepC hB (World.block_lt_of_cell? w _ hn0) hn0)
      have h8 := hv.cells
      have h1 := one9 nm hv
      have hi8 : (Try.prog.info? 47).map (·.size) = some (Value.string nm :: cs).length := by rw [List.length_cons, h8]; exact infoM
      have hi8' : (Try.prog.info? 47).map (·.size) = some (Value.string nm :: cs).toArray.size := by simp [h8, infoM]
      have hz8 : (Value.string nm :: cs).toArray.size = 9 := by simp [h8]
      have ki : (k : Int) < (n : Int) := by omega
      have HH := hide (And.intro hi8 (And.intro hi8' (And.intro hz8 h8)))
      have h9 : (Value.string nm :: cs).length = 9 := by simp [h8]
      have HH := hide (And.intro (unhide HH).1 (And.intro (unhide HH).2.1 (And.intro (unhide HH).2.2.1 h9)))
      clear hr hi8 hi8' hz8 h8 h9
      go_wp2_with (first
        | refine wpList_load_mid (by rfl) 47 _ (by rfl) b (off + k * 9) (by rfl) (Value.string nm :: cs) _ hr' Try.underlying47 (by rfl) (unhide HH).1 ?_
        | refine wpList_store_mid (by rfl) 47 _ _ (by rfl) wr.heap.size 0 (Value.string nm :: cs).toArray (by rfl) (by rfl) (there_new (by rw [(unhide HH).2.2.1]; rfl)) (unhide HH).2.1 h1 ?_
        | refine wpList_load_mid (by rfl) 47 _ (by rfl) wr.heap.size 0 (by rfl) (Value.string nm :: cs) _ (World.rangeAt_setCells_same _ _ _ _ (there_new (by show _ = (Value.string nm :: cs).length; rw [(unhide HH).2.2.2]; rfl))) Try.underlying47 (by rfl) (unhide HH).1 ?_)
      obtain ⟨W2, e2⟩ : ∃ W2, W2 = ((wr.alloc (.cells #[Value.string { data := #[] }, Value.int IntKind.i64 0, Value.bool false, Value.int IntKind.i64 0, Value.float FloatKind.f64 0, Value.string { data := #[] }, Value.string { data := #[] }, Value.slice none 0 0, Value.slice none 0 0] 47)).setCells wr.heap.size 0 (Value.string nm :: cs)) := ⟨_, rfl⟩
      have b2 : Below wr.heap.size wr W2 := by rw [e2]; exact below_setCells _ _ _ _ ((Below.refl _ _).alloc (Nat.le_refl _) _) (Nat.le_refl _)
      rw [← e2]
      clear e2
      have hv2 : VlC W2 v cs := VlC.below (hB.trans (b2.mono hB.size)) v cs hv
      refine ((unhide hcop) W2 hv2).mono ?_
      rintro e w3 ⟨ds, F, rfl, hO3, hnd3, hF3, b3, z3⟩
      have Z3 := hide z3
      clear z3
      have d8 := (OwC.read v ds F hO3).cells
      have d1 := one9 nm (OwC.read v ds F hO3)
      have b23 : Below wr.heap.size wr w3 := b2.trans (b3.mono b2.size)
      have hT3 : w3.there w.heap.size (k * 9) (Value.string nm :: ds).toArray.size := there_sub (there_below (unhide hT) b23 hs) (Nat.zero_le _) (by simp [d8]; omega)
      have hi8 : (Try.prog.info? 47).map (·.size) = some (Value.string nm :: ds).toArray.size := by simp [d8, infoM]
      have D8 := hide d8
      have HI := hide hi8
      have HT := hide hT3
      have HO3 := hide hO3
      clear hO3 hT3 hi8 d8 hcop HH hr' hv2
      go_wp2_with (first
        | refine wpList_store_mid (by rfl) 47 _ _ (by rfl) w.heap.size (k * 9) (Value.string nm :: ds).toArray (by rfl) (by rfl) (unhide HT) (unhide HI) d1 ?_)
      have hfresh : ∀ b' ∈ F, wr.heap.size ≤ b' ∧ b' < w3.heap.size := fun b' hb' => ⟨Nat.le_trans b2.size (hF3 b' hb').1, (hF3 b' hb').2⟩
      have hpG : w.heap.size ∉ G := fun h => absurd (hG _ h).1 (Nat.lt_irrefl _)
      have hpF : w.heap.size ∉ F := fun h => absurd (hfresh _ h).1 (by omega)
      have hag : Agree G wr w3 := Agree.of_below b23 (fun b' hb' => (hG b' hb').2)
      have hO4 : OwfIn (w3.setCells w.heap.size (k * 9) (Value.string nm :: ds)) (Fls.of (fls.list.take k)) w.heap.size 0 k G :=
        OwfIn.keep _ _ _ _ _ (hag.trans (agree_setCells w3 hpG)) (fun o ho => by
          rw [World.cell?_setCells_out _ _ _ _ _ (fun _ _ => .inl (by show o < k * 9; omega))]
          exact b23.cell (p := ⟨w.heap.size, o, none⟩) hs) (unhide hO)
      have hrow9 : (w3.setCells w.heap.size (k * 9) (Value.string nm :: ds)).rangeAt w.heap.size (0 + k * 9) (Value.string nm :: ds) := by
        rw [Nat.zero_add]
        exact World.rangeAt_setCells_same w3 _ _ _ (by have := unhide HT; simpa using this)
      have hrow : Row8 (w3.setCells w.heap.size (k * 9) (Value.string nm :: ds)) w.heap.size (0 + k * 9 + 1) ds := fun j u hu => by
        rw [show 0 + k * 9 + 1 + j = 0 + k * 9 + (j + 1) by omega]
        exact hrow9 (j + 1) u (by simpa using hu)
      have hown : OwC (w3.setCells w.heap.size (k * 9) (Value.string nm :: ds)) v ds F := OwC.agree v ds F (agree_setCells w3 hpF) (unhide HO3)
      have hsn := OwfIn.snoc (fls.list.take k) _ _ _ _ hO4 (hrow9 0 _ rfl) hnz hrow hown
      rw [show fls.list.take k ++ [(nm, v)] = fls.list.take (k + 1) by rw [List.take_add_one, hg]; rfl] at hsn
      refine ⟨⟨k + 1, G ++ F, by omega, by go_num, hide hsn, ?_, ?_, hide (World.there_setCells (there_below (unhide hT) b23 hs) _ _ _), below_setCells _ _ _ _ (hB.trans (b23.mono hB.size)) (Nat.le_refl _), by rw [size_setCells]; exact Nat.lt_of_lt_of_le hs b23.size, hide (Fz.setCells (Fz.app (F := w.heap.size :: G) ((unhide hZ3).below b23 (fun b' hb' => by
        rcases List.mem_cons.1 hb' with h | h
        · rw [h]; exact hs
        · exact (hG b' h).2)) (unhide Z3)) _ _ _)⟩, by simp only [intOf]; omega⟩
      · rw [List.nodup_append]
        exact ⟨hnd, hnd3, fun x hx y hy e => by have h1 := (hG x hx).2; have h2 := (hfresh y hy).1; omega⟩
      · intro b' hb'
        rw [size_setCells]
        rcases List.mem_append.1 hb' with h | h
        · exact ⟨(hG b' h).1, Nat.lt_of_lt_of_le (hG b' h).2 b23.size⟩
        · exact ⟨Nat.lt_of_lt_of_le hs (hfresh b' h).1, (hfresh b' h).2⟩
    · obtain rfl : k = n := by omega
      go_wp2
      go_ret
      refine ⟨_, G, rfl, ?_, List.nodup_cons.2 ⟨fun h => absurd (hG _ h).1 (Nat.lt_irrefl _), hnd⟩, ?_, hB, unhide hZ3⟩
      · have := unhide hO
        rwa [List.take_of_length_le (Nat.le_of_eq (unhide hL)), Fls.of_list] at this
      · intro b' hb'
        rcases List.mem_cons.1 hb' with rfl | h
        · exact ⟨Nat.le_refl _, hs⟩
        · exact ⟨Nat.le_of_lt (hG b' h).1, (hG b' h).2⟩
end Go.Proofs.Ytiblkdedbimggaa.vl
namespace Go.Proofs.Ytiblkdedbimggaa.vl
open Go.ChangeShapes Go.WideShapes Go.ChangeAt Go.RowKit
set_option linter.unusedVariables false
set_option linter.unusedSimpArgs false
mutual
/-- lists of bearable length, all the way down -/
def Small : Vl → Prop
  | .mk kd b n f tx ty its fls => its.list.length ≤ 1256584717458 ∧ fls.list.length ≤ 1099511627776 ∧ f < 18446744073709551616 ∧ SmallI its ∧ SmallF fls
def SmallI : Vls → Prop
  | .nil => True
  | .cons v r => Small v ∧ SmallI r
def SmallF : Fls → Prop
  | .nil => True
  | .cons nm v r => Small v ∧ SmallF r
end
theorem SmallI.all : ∀ {l : Vls}, SmallI l → ∀ v ∈ l.list, Small v
  | .nil, _, v, h => by simp [Vls.list] at h
  | .cons u r, hs, v, h => by
    unfold SmallI at hs
    simp only [Vls.list, List.mem_cons] at h
    rcases h with h | h
    · rw [h]; exact hs.1
    · exact hs.2.all v h
theorem SmallF.all : ∀ {l : Fls}, SmallF l → ∀ q ∈ l.list, Small q.2
  | .nil, _, q, h => by simp [Fls.list] at h
  | .cons nm u r, hs, q, h => by
    unfold SmallF at hs
    simp only [Fls.list, List.mem_cons] at h
    rcases h with h | h
    · rw [h]; exact hs.1
    · exact hs.2.all q h
theorem each_nil (c : Nat) (w : World) : Calls Try.prog 52 #[.slice none 0 c, .func (.func 38) #[] #[]] w fun e w' => e = .returned (.slice none 0 0) ∧ w' = w := by
  have hnil : ∀ (w : World) (a : Option Addr) (n c n' c' : Nat), (binOp .eql 24 (.slice a n c) (.slice none n' c')).run Try.prog w = .ok (.bool a.isNone) w := fun w a n c n' c' => Lib.run_eql_slice_nil w _ _ a n c n' c' Try.underlying24
  go_enter Try.func52, Try.ntmps52
  go_wp2
  go_ret
  exact ⟨rfl, rfl⟩
theorem eachM_nil (c : Nat) (w : World) : Calls Try.prog 53 #[.slice none 0 c, .func (.func 61) #[] #[]] w fun e w' => e = .returned (.slice none 0 0) ∧ w' = w := by
  have hnil : ∀ (w : World) (a : Option Addr) (n c n' c' : Nat), (binOp .eql 25 (.slice a n c) (.slice none n' c')).run Try.prog w = .ok (.bool a.isNone) w := fun w a n c n' c' => Lib.run_eql_slice_nil w _ _ a n c n' c' Try.underlying25
  go_enter Try.func53, Try.ntmps53
  go_wp2
  go_ret
  exact ⟨rfl, rfl⟩
theorem each_any (l : Vls) (ih : ∀ v ∈ l.list, CopyAt v) (a : Option Addr) (n c : Nat) (w : World) (hI : VlsAt w l a n) (hn : n ≤ 1256584717458) (hnc : n ≤ c) (ha : a = none → c = 0) : Calls Try.prog 52 #[.slice a n c, .func (.func 38) #[] #[]] w fun e w' => ∃ (aj : Option Addr) (cj : Nat) (F : List Nat), e = .returned (.slice aj n cj) ∧ ((aj = none ∧ l = .nil ∧ n = 0 ∧ F = []) ∨ ∃ p G, aj = some ⟨p, 0, none⟩ ∧ F = p :: G ∧ OwsIn w' l p 0 n G) ∧ F.Nodup ∧ (∀ b ∈ F, w.heap.size ≤ b ∧ b < w'.heap.size) ∧ Below w.heap.size w w' ∧ n ≤ cj ∧ (aj = none → cj = 0) ∧ cj ≤ maxLen ∧ Fz w' F := by
  cases a with
  | none =>
    obtain rfl : n = 0 := by have := ha rfl; omega
    obtain rfl : l = .nil := by
      cases l with
      | nil => rfl
      | cons => exact absurd (VlsAt.len _ _ _ hI) (by simp [Vls.list])
    refine (each_nil c w).mono ?_
    rintro e w' ⟨rfl, rfl⟩
    exact ⟨none, 0, [], rfl, .inl ⟨rfl, rfl, rfl, rfl⟩, List.nodup_nil, by simp, Below.refl _ _, Nat.le_refl _, fun _ => rfl, Nat.zero_le _, fun b hb => by simp at hb⟩
  | some a =>
    refine (each_ok l ih a n c w hI hn).mono ?_
    rintro e w' ⟨p, G, rfl, h1, h2, h3, h4, h5⟩
    exact ⟨_, n, p :: G, rfl, .inr ⟨p, G, rfl, rfl, h1⟩, h2, h3, h4, Nat.le_refl _, fun e => (by cases e), (by unfold maxLen; omega), h5⟩
theorem eachM_any (l : Fls) (ih : ∀ q ∈ l.list, CopyAt q.2) (a : Option Addr) (n c : Nat) (w : World) (hI : FlsAt w l a n) (hn : n ≤ 1099511627776) (hnc : n ≤ c) (ha : a = none → c = 0) : Calls Try.prog 53 #[.slice a n c, .func (.func 61) #[] #[]] w fun e w' => ∃ (aj : Option Addr) (cj : Nat) (F : List Nat), e = .returned (.slice aj n cj) ∧ ((aj = none ∧ l = .nil ∧ n = 0 ∧ F = []) ∨ ∃ p G, aj = some ⟨p, 0, none⟩ ∧ F = p :: G ∧ OwfIn w' l p 0 n G) ∧ F.Nodup ∧ (∀ b ∈ F, w.heap.size ≤ b ∧ b < w'.heap.size) ∧ Below w.heap.size w w' ∧ n ≤ cj ∧ (aj = none → cj = 0) ∧ cj ≤ maxLen ∧ Fz w' F := by
  cases a with
  | none =>
    obtain rfl : n = 0 := by have := ha rfl; omega
    obtain rfl : l = .nil := by
      cases l with
      | nil => rfl
      | cons => exact absurd (FlsAt.len _ _ _ hI) (by simp [Fls.list])
    refine (eachM_nil c w).mono ?_
    rintro e w' ⟨rfl, rfl⟩
    exact ⟨none, 0, [], rfl, .inl ⟨rfl, rfl, rfl, rfl⟩, List.nodup_nil, by simp, Below.refl _ _, Nat.le_refl _, fun _ => rfl, Nat.zero_le _, fun b hb => by simp at hb⟩
  | some a =>
    refine (eachM_ok l ih a n c w hI hn).mono ?_
    rintro e w' ⟨p, G, rfl, h1, h2, h3, h4, h5⟩
    exact ⟨_, n, p :: G, rfl, .inr ⟨p, G, rfl, rfl, h1⟩, h2, h3, h4, Nat.le_refl _, fun e => (by cases e), (by unfold maxLen; omega), h5⟩
set_option maxHeartbeats 6000000 in
set_option maxRecDepth 6000 in
theorem copy_ok : ∀ v : Vl, Small v → CopyAt v := by
  refine Vl.all ?_
  intro kd bb ni f tx ty its fls ihI ihF hsm cs w hv
  unfold Small at hsm
  obtain ⟨hl1, hl2, -, hsI, hsF⟩ := hsm
  unfold VlC at hv
  obtain ⟨ai, nI, ci, af, nf, cf, rfl, hI, hF, hni, hnf, hai, haf, hk1, hk2, hk3, hk4, hci, hcf⟩ := hv
  have hmf : ∀ (fn : Fn) (first cap : Array Value) (w : World), (Instr.makeFunc fn first cap).run Try.prog w = .ok (.func fn first cap) w := fun _ _ _ _ => rfl
  go_enter Try.func38, Try.ntmps38
  go_wp2_with fail
  obtain ⟨W, eW⟩ : ∃ W, W = ((w.alloc (.cells #[.int .i64 kd, .bool bb, .int .i64 ni, .float .f64 f, .string tx, .string ty, .slice ai nI ci, .slice af nf cf] 27)).alloc (.cells #[.int .i64 0, .bool false, .int .i64 0, .float .f64 0, .string { data := #[] }, .string { data := #[] }, .slice none 0 0, .slice none 0 0] 27)) := ⟨_, rfl⟩
  have bW : Below w.heap.size w W := by rw [eW]; exact ((Below.refl _ _).alloc (Nat.le_refl _) _).alloc (by simp) _
  have hsz : W.heap.size = w.heap.size + 2 := by rw [eW]; simp
  have x0 : W.cell? ⟨w.heap.size, 0, none⟩ = some (.int .i64 kd) := by rw [eW]; simp
  have x1 : W.cell? ⟨w.heap.size, 1, none⟩ = some (.bool bb) := by rw [eW]; simp
  have x2 : W.cell? ⟨w.heap.size, 2, none⟩ = some (.int .i64 ni) := by rw [eW]; simp
  have x3 : W.cell? ⟨w.heap.size, 3, none⟩ = some (.float .f64 f) := by rw [eW]; simp
  have x4 : W.cell? ⟨w.heap.size, 4, none⟩ = some (.string tx) := by rw [eW]; simp
  have x5 : W.cell? ⟨w.heap.size, 5, none⟩ = some (.string ty) := by rw [eW]; simp
  have x6 : W.cell? ⟨w.heap.size, 6, none⟩ = some (.slice ai nI ci) := by rw [eW]; simp
  have x7 : W.cell? ⟨w.heap.size, 7, none⟩ = some (.slice af nf cf) := by rw [eW]; simp
  have xf : ∀ j, W.frozen? ⟨w.heap.size, j, none⟩ = false := by intro j; rw [eW]; simp
  have hth : W.there (w.heap.size + 1) 0 8 := by
    rw [eW]
    have h := there_new (w := w.alloc (.cells #[.int .i64 kd, .bool bb, .int .i64 ni, .float .f64 f, .string tx, .string ty, .slice ai nI ci, .slice af nf cf] 27)) (Z := #[.int .i64 0, .bool false, .int .i64 0, .float .f64 0, .string { data := #[] }, .string { data := #[] }, .slice none 0 0, .slice none 0 0]) (t := 27) (n := 8) rfl
    simpa using h
  rw [← eW]
  clear eW
  refine (each_any its (fun v hv => ihI v hv (hsI.all v hv)) ai nI ci W (VlsAt.below bW its _ _ hI) (by rw [← VlsAt.len its _ _ hI]; exact hl1) hni hai).mono ?_
  rintro e w1 ⟨aj, cj, Fi, rfl, hOI, hndI, hFI, b1, q1, q2, q3, zI⟩
  have hl : w.heap.size < W.heap.size := by omega
  have y0 := keepC b1 hl x0
  have y1 := keepC b1 hl x1
  have y2 := keepC b1 hl x2
  have y3 := keepC b1 hl x3
  have y4 := keepC b1 hl x4
  have y5 := keepC b1 hl x5
  have y6 := keepC b1 hl x6
  have y7 := keepC b1 hl x7
  have yf : ∀ j, w1.frozen? ⟨w.heap.size, j, none⟩ = false := fun j => (b1.frozen (p := ⟨w.heap.size, j, none⟩) hl).trans (xf j)
  have hO := hide hOI
  clear x0 x1 x2 x3 x4 x5 x6 x7 xf hOI
  go_wp2_with fail
  obtain ⟨w2, e2⟩ : ∃ w2, w2 = w1.setCell ⟨w.heap.size, 6, none⟩ (.slice aj nI cj) := ⟨_, rfl⟩
  have hs1 : w.heap.size < w1.heap.size := Nat.lt_of_lt_of_le hl b1.size
  have hs2 : w2.heap.size = w1.heap.size := by rw [e2]; simp
  have b2 : Below w.heap.size w w2 := by rw [e2]; exact (bW.trans (b1.mono bW.size)).setCell (p := ⟨w.heap.size, 6, none⟩) (Nat.le_refl _) _
  have u0 : w2.cell? ⟨w.heap.size, 0, none⟩ = some (.int .i64 kd) := by rw [e2, World.cell?_setCell_other _ _ _ _ (by simp)]; exact y0
  have u1 : w2.cell? ⟨w.heap.size, 1, none⟩ = some (.bool bb) := by rw [e2, World.cell?_setCell_other _ _ _ _ (by simp)]; exact y1
  have u2 : w2.cell? ⟨w.heap.size, 2, none⟩ = some (.int .i64 ni) := by rw [e2, World.cell?_setCell_other _ _ _ _ (by simp)]; exact y2
  have u3 : w2.cell? ⟨w.heap.size, 3, none⟩ = some (.float .f64 f) := by rw [e2, World.cell?_setCell_other _ _ _ _ (by simp)]; exact y3
  have u4 : w2.cell? ⟨w.heap.size, 4, none⟩ = some (.string tx) := by rw [e2, World.cell?_setCell_other _ _ _ _ (by simp)]; exact y4
  have u5 : w2.cell? ⟨w.heap.size, 5, none⟩ = some (.string ty) := by rw [e2, World.cell?_setCell_other _ _ _ _ (by simp)]; exact y5
  have u6 : w2.cell? ⟨w.heap.size, 6, none⟩ = some (.slice aj nI cj) := by rw [e2]; exact World.cell?_setCell_same _ _ _ y6
  have u7 : w2.cell? ⟨w.heap.size, 7, none⟩ = some (.slice af nf cf) := by rw [e2, World.cell?_setCell_other _ _ _ _ (by simp)]; exact y7
  have uf : ∀ j, w2.frozen? ⟨w.heap.size, j, none⟩ = false := by intro j; rw [e2]; simpa using yf j
  have hth2 : w2.there (w.heap.size + 1) 0 8 := by
    have h1 := there_below hth b1 (by omega)
    have : w2 = w1.setCells w.heap.size 6 [.slice aj nI cj] := e2
    rw [this]
    exact World.there_setCells h1 _ _ _
  have zI2 : Fz w2 Fi := by
    have : w2 = w1.setCells w.heap.size 6 [.slice aj nI cj] := e2
    rw [this]
    exact zI.setCells _ _ _
  have HzI := hide zI2
  clear zI zI2
  have ag2 : ∀ F : List Nat, w.heap.size ∉ F → Agree F w1 w2 := fun F hF => by
    have : w2 = w1.setCells w.heap.size 6 [.slice aj nI cj] := e2
    rw [this]
    exact agree_setCells w1 hF
  rw [← e2]
  clear e2 y0 y1 y2 y3 y4 y5 y6 y7 yf
  refine (eachM_any fls (fun q hq => ihF q hq (hsF.all q hq)) af nf cf w2 (FlsAt.below b2 fls _ _ hF) (by rw [← FlsAt.len fls _ _ hF]; exact hl2) hnf haf).mono ?_
  rintro e w3 ⟨ag, cg, Ff, rfl, hOF, hndF, hFF, b3, r1, r2, r3, zF⟩
  have hl2 : w.heap.size < w2.heap.size := by omega
  have z0 := keepC b3 hl2 u0
  have z1 := keepC b3 hl2 u1
  have z2 := keepC b3 hl2 u2
  have z3 := keepC b3 hl2 u3
  have z4 := keepC b3 hl2 u4
  have z5 := keepC b3 hl2 u5
  have z6 := keepC b3 hl2 u6
  have z7 := keepC b3 hl2 u7
  have zf : ∀ j, w3.frozen? ⟨w.heap.size, j, none⟩ = false := fun j => (b3.frozen (p := ⟨w.heap.size, j, none⟩) hl2).trans (uf j)
  have hOF' := hide hOF
  have HzF := hide zF
  clear zF
  clear u0 u1 u2 u3 u4 u5 u6 u7 uf hOF
  obtain ⟨L, eL⟩ : ∃ L : List Value, L = [.int .i64 kd, .bool bb, .int .i64 ni, .float .f64 f, .string tx, .string ty, .slice aj nI cj, .slice ag nf cg] := ⟨_, rfl⟩
  have hL8 : L.length = 8 := by rw [eL]; rfl
  have hth3 : (w3.setCell ⟨w.heap.size, 7, none⟩ (.slice ag nf cg)).there (w.heap.size + 1) 0 L.toArray.size := by
    simp only [List.size_toArray, hL8]
    have hsW := b1.size
    exact World.there_setCells (there_below hth2 b3 (by omega)) w.heap.size 7 [.slice ag nf cg]
  have ho8 : L.toArray.all (·.oneCell') = true := by rw [eL]; simp [Value.oneCell']
  have hrL : (w3.setCell ⟨w.heap.size, 7, none⟩ (.slice ag nf cg)).rangeAt w.heap.size 0 L := by
    intro j u hu
    rw [eL] at hu
    have hj : j < 8 := by have := (List.getElem?_eq_some_iff.1 hu).1; simpa using this
    rw [Nat.zero_add]
    rcases (by omega : j = 0 ∨ j = 1 ∨ j = 2 ∨ j = 3 ∨ j = 4 ∨ j = 5 ∨ j = 6 ∨ j = 7) with rfl | rfl | rfl | rfl | rfl | rfl | rfl | rfl
    · simp at hu; rw [← hu, World.cell?_setCell_other _ _ _ _ (by simp)]; exact z0
    · simp at hu; rw [← hu, World.cell?_setCell_other _ _ _ _ (by simp)]; exact z1
    · simp at hu; rw [← hu, World.cell?_setCell_other _ _ _ _ (by simp)]; exact z2
    · simp at hu; rw [← hu, World.cell?_setCell_other _ _ _ _ (by simp)]; exact z3
    · simp at hu; rw [← hu, World.cell?_setCell_other _ _ _ _ (by simp)]; exact z4
    · simp at hu; rw [← hu, World.cell?_setCell_other _ _ _ _ (by simp)]; exact z5
    · simp at hu; rw [← hu, World.cell?_setCell_other _ _ _ _ (by simp)]; exact z6
    · simp at hu; rw [← hu]; exact World.cell?_setCell_same _ _ _ z7
  have iL : (Try.prog.info? 27).map (·.size) = some L.length := by rw [hL8]; exact infoV
  have iL' : (Try.prog.info? 27).map (·.size) = some L.toArray.size := by simp [hL8, infoV]
  have HH := hide (And.intro hth3 (And.intro hrL (And.intro iL (And.intro iL' (And.intro hL8 eL)))))
  clear hth hth2 hth3 hrL iL iL' hL8 eL
  go_wp2_with (first
    | refine wpList_load_mid (by rfl) 27 _ (by rfl) w.heap.size 0 (by rfl) L _ (unhide HH).2.1 Try.underlying27 (by rfl) (unhide HH).2.2.1 ?_
    | refine wpList_store_mid (by rfl) 27 _ _ (by rfl) (w.heap.size + 1) 0 L.toArray (by rfl) (by rfl) (unhide HH).1 (unhide HH).2.2.2.1 ho8 ?_)
  obtain ⟨hth3, hrL, iL, iL', hL8, eL⟩ := unhide HH
  obtain ⟨w4, e4⟩ : ∃ w4, w4 = ((w3.setCell ⟨w.heap.size, 7, none⟩ (.slice ag nf cg)).setCells (w.heap.size + 1) 0 L) := ⟨_, rfl⟩
  have E4 : w4 = (w3.setCells w.heap.size 7 [.slice ag nf cg]).setCells (w.heap.size + 1) 0 L := e4
  have b4 : Below w.heap.size w3 w4 := by rw [E4]; exact below_setCells _ _ _ _ (below_setCells _ _ _ _ (Below.refl _ _) (Nat.le_refl _)) (Nat.le_succ _)
  have hs4 : w4.heap.size = w3.heap.size := by rw [E4, size_setCells, size_setCells]
  have hr4 : w4.rangeAt (w.heap.size + 1) 0 L := by rw [E4]; exact World.rangeAt_setCells_same _ _ _ _ (by have h := hth3; rw [List.size_toArray] at h; exact h)
  have ag4 : ∀ F : List Nat, (∀ b ∈ F, w.heap.size + 2 ≤ b) → Agree F w3 w4 := fun F hF => by
    rw [E4]
    exact (agree_setCells w3 (fun h => by have := hF _ h; omega)).trans (agree_setCells _ (fun h => by have := hF _ h; omega))
  refine bodyPost_ret (rgn.result_row rfl _ _ (w.heap.size + 1) 0 L _ rfl (by rw [← e4]; exact hr4) Try.underlying27 rfl iL) rfl ?_
  rw [← e4]
  have hsW := b1.size
  have gI : ∀ b ∈ Fi, w.heap.size + 2 ≤ b ∧ b < w1.heap.size := fun b hb => by have := hFI b hb; omega
  have gF : ∀ b ∈ Ff, w2.heap.size ≤ b ∧ b < w3.heap.size := hFF
  have hnI : w.heap.size ∉ Fi := fun h => by have := gI _ h; omega
  have agI : Agree Fi w1 w4 := ((ag2 Fi hnI).trans (Agree.of_below b3 (fun b hb => by have := gI b hb; omega))).trans (ag4 Fi (fun b hb => (gI b hb).1))
  have agF : Agree Ff w3 w4 := ag4 Ff (fun b hb => by have := gF b hb; omega)
  have z4 : Fz w4 (Fi ++ Ff) := by
    rw [E4]
    exact ((((unhide HzI).below b3 (fun b hb => by have := gI b hb; omega)).app (unhide HzF)).setCells _ _ _).setCells _ _ _
  refine ⟨L, Fi ++ Ff, rfl, ?_, ?_, ?_, ?_, z4⟩
  · unfold OwC
    refine ⟨aj, nI, cj, ag, nf, cg, Fi, Ff, eL, ?_, ?_, q1, r1, q2, r2, hk1, hk2, hk3, hk4, q3, r3, rfl⟩
    · rcases unhide hO with h | ⟨p, G, h1, rfl, h2⟩
      · exact .inl h
      · exact .inr ⟨p, G, h1, rfl, OwsIn.agree its p 0 nI G agI h2⟩
    · rcases unhide hOF' with h | ⟨p, G, h1, rfl, h2⟩
      · exact .inl h
      · exact .inr ⟨p, G, h1, rfl, OwfIn.agree fls p 0 nf G agF h2⟩
  · rw [List.nodup_append]
    exact ⟨hndI, hndF, fun x hx y hy e => by have h1 := (gI x hx).2; have h2 := (gF y hy).1; omega⟩
  · intro b hb
    have hs3 := b3.size
    rcases List.mem_append.1 hb with h | h
    · have := gI b h; omega
    · have := gF b h; omega
  · exact (b2.trans (b3.mono b2.size)).trans b4
end Go.Proofs.Ytiblkdedbimggaa.vl
namespace Go.Proofs.Ytiblkdedbimggaa.stp
open Go.ChangeShapes Go.WideShapes Go.ChangeAt Go.RowKit
set_option linter.unusedVariables false

theorem hide {p : Prop} (h : p) : Hid p := h
theorem unhide {p : Prop} (h : Hid p) : p := h
def c3 (x t : Int) : Int := if x < t then -1 else if t < x then 1 else 0
theorem c3_lt {x t : Int} (h : x < t) : c3 x t = -1 := by simp [c3, h]
theorem c3_gt {x t : Int} (h : t < x) : c3 x t = 1 := by simp [c3, h, show ¬ x < t by omega]
theorem c3_eq {x t : Int} (h : x = t) : c3 x t = 0 := by simp [c3, h]
/-- two texts, byte by byte -/
def cB (a b : ByteArray) : Int := Lib.compareBytes a.data.toList b.data.toList
theorem cmpL_tri : ∀ a b : List UInt8, (Lib.compareBytes a b = -1 ∧ Op.bytesLess a b = true ∧ a ≠ b) ∨ (Lib.compareBytes a b = 0 ∧ Op.bytesLess a b = false ∧ a = b) ∨ (Lib.compareBytes a b = 1 ∧ Op.bytesLess a b = false ∧ a ≠ b)
  | [], [] => by simp [Lib.compareBytes, Op.bytesLess]
  | [], _ :: _ => by simp [Lib.compareBytes, Op.bytesLess]
  | _ :: _, [] => by simp [Lib.compareBytes, Op.bytesLess]
  | x :: a, y :: b => by
    have ih := cmpL_tri a b
    by_cases h1 : x < y
    · left
      refine ⟨by simp [Lib.compareBytes, h1], by simp [Op.bytesLess, h1], ?_⟩
      intro e
      simp only [List.cons.injEq] at e
      rw [e.1] at h1
      exact UInt8.lt_irrefl _ h1
    · by_cases h2 : y < x
      · right; right
        have hne : x ≠ y := fun e => by rw [e] at h2; exact UInt8.lt_irrefl _ h2
        refine ⟨by simp [Lib.compareBytes, h1, h2], by simp [Op.bytesLess, h1, hne], ?_⟩
        intro e
        simp only [List.cons.injEq] at e
        exact hne e.1
      · have e : x = y := UInt8.le_antisymm (UInt8.not_lt.1 h2) (UInt8.not_lt.1 h1)
        subst e
        simpa [Lib.compareBytes, Op.bytesLess, UInt8.lt_irrefl] using ih
theorem toList_data (a : ByteArray) : a.toList = a.data.toList := Lib.toList_data a
theorem cB_tri (a b : ByteArray) : (cB a b = -1 ∧ Op.bytesLess a.toList b.toList = true ∧ a ≠ b) ∨ (cB a b = 0 ∧ Op.bytesLess a.toList b.toList = false ∧ a = b) ∨ (cB a b = 1 ∧ Op.bytesLess a.toList b.toList = false ∧ a ≠ b) := by
  rw [toList_data, toList_data]
  have hab : a = b ↔ a.data.toList = b.data.toList := by
    constructor
    · intro e; rw [e]
    · intro e
      obtain ⟨⟨x⟩⟩ := a
      obtain ⟨⟨y⟩⟩ := b
      simp at e
      rw [e]
  rcases cmpL_tri a.data.toList b.data.toList with ⟨h1, h2, h3⟩ | ⟨h1, h2, h3⟩ | ⟨h1, h2, h3⟩
  · exact .inl ⟨h1, h2, fun e => h3 (hab.1 e)⟩
  · exact .inr (.inl ⟨h1, h2, hab.2 h3⟩)
  · exact .inr (.inr ⟨h1, h2, fun e => h3 (hab.1 e)⟩)
theorem run_cmp (a b : ByteArray) (w : World) : (callFunc 79 #[.string a, .string b]).run Try.prog w = .ok (.value (.int .i64 (cB a b))) w := by
  rw [run_callFunc_extern (e := Extern.BytealgCompare.compare) Try.func79 (by kernel_rfl) (by kernel_rfl) (by kernel_rfl) (by kernel_rfl), Lib.run_compareString]
  rfl
theorem str_cmp (a b : ByteArray) (w : World) : Calls Try.prog 47 #[.string a, .string b] w fun e w' => e = .returned (.int .i64 (cB a b)) ∧ Below w.heap.size w w' := by
  have hr := fun w => run_cmp a b w
  go_enter Try.func47, Try.ntmps47
  go_wp2
  go_ret
  exact ⟨rfl, Below.refl _ _⟩
/-- a step of a path -/
structure St where
  nm : ByteArray
  ix : Int
  it : Bool
def St.val (s : St) : Value := .agg #[.string s.nm, .int .i64 s.ix, .bool s.it]
/-- how two steps stand to each other -/
def cS (a b : St) : Int := if a.it = true then (if b.it = true then c3 a.ix b.ix else -1) else (if b.it = true then 1 else cB a.nm b.nm)
def pN (nm : ByteArray) (it : Bool) : ByteArray := if it = true then ⟨#[]⟩ else nm
def pI (ix : Int) (it : Bool) : Int := if it = true then ix else 0
theorem plain_any (nm : ByteArray) (ix : Int) (it : Bool) (w : World) : Calls Try.prog 62 #[.agg #[.string nm, .int .i64 ix, .bool it]] w fun e w' => e = .returned (.agg #[.string (pN nm it), .int .i64 (pI ix it), .bool it]) ∧ Below w.heap.size w w' := by
  cases it
  · go_enter Try.func62, Try.ntmps62
    go_wp2
    refine bodyPost_ret (results_cell_row rfl _ _ (w.heap.size + 1) 39 _ (0, 0) _ rfl (heap_alloc2_new _ _ _) Try.underlying39 rfl (by kernel_rfl)) rfl ?_
    exact ⟨rfl, ((Below.refl _ _).alloc (Nat.le_refl _) _).alloc (by simp) _⟩
  · go_enter Try.func62, Try.ntmps62
    go_wp2
    refine bodyPost_ret (results_cell_row rfl _ _ (w.heap.size + 1) 39 _ (0, 0) _ rfl (heap_alloc2_new _ _ _) Try.underlying39 rfl (by kernel_rfl)) rfl ?_
    exact ⟨rfl, ((Below.refl _ _).alloc (Nat.le_refl _) _).alloc (by simp) _⟩
/-- a step's three cells -/
def St3 (w : World) (b o : Nat) (nm : ByteArray) (ix : Int) (it : Bool) : Prop := w.cell? ⟨b, o, none⟩ = some (.string nm) ∧ w.cell? ⟨b, o + 1, none⟩ = some (.int .i64 ix) ∧ w.cell? ⟨b, o + 2, none⟩ = some (.bool it)
theorem St3.below {w w' : World} {b o : Nat} {nm : ByteArray} {ix : Int} {it : Bool} (h : St3 w b o nm ix it) (hb : b < w.heap.size) (hB : Below w.heap.size w w') : St3 w' b o nm ix it :=
  ⟨(hB.cell (p := ⟨b, o, none⟩) hb).trans h.1, (hB.cell (p := ⟨b, o + 1, none⟩) hb).trans h.2.1, (hB.cell (p := ⟨b, o + 2, none⟩) hb).trans h.2.2⟩
theorem two_steps (w : World) (n1 n2 : ByteArray) (x1 x2 : Int) (t1 t2 : Bool) (t : TypeId) : ∃ W, ((w.alloc (Obj.cells #[.string n1, .int .i64 x1, .bool t1] t)).alloc (Obj.cells #[.string n2, .int .i64 x2, .bool t2] t)) = W ∧ W.heap.size = w.heap.size + 2 ∧ St3 W w.heap.size 0 n1 x1 t1 ∧ St3 W (w.heap.size + 1) 0 n2 x2 t2 ∧ Below w.heap.size w W := by
  refine ⟨_, rfl, by simp, ?_, ?_, ((Below.refl _ _).alloc (Nat.le_refl _) _).alloc (by simp) _⟩
  · unfold St3; simp
  · have e : w.heap.size + 1 = (w.alloc (Obj.cells #[.string n1, .int .i64 x1, .bool t1] t)).heap.size := by simp
    unfold St3
    rw [e]
    simp
/-- are two steps one, what doesn't count struck? -/
def eqS (n1 : ByteArray) (x1 : Int) (t1 : Bool) (n2 : ByteArray) (x2 : Int) (t2 : Bool) : Bool := (pN n1 t1).toList == (pN n2 t2).toList && pI x1 t1 == pI x2 t2 && t1 == t2
theorem stood : Try.prog.stoodInHeld 39 = false := by kernel_rfl
theorem flds : Try.prog.underlying 39 = some (.struct (Try.prog.fieldsOf 39)) := by kernel_rfl
theorem run_eqStep (n1 n2 : ByteArray) (x1 x2 : Int) (t1 t2 : Bool) (w : World) : (binOp BinOp.eql 39 (.agg #[.string n1, .int .i64 x1, .bool t1]) (.agg #[.string n2, .int .i64 x2, .bool t2])).run Try.prog w = .ok (.bool (n1.toList == n2.toList && x1 == x2 && t1 == t2)) w := by
  rw [run_eql_struct, run_equalIn_agg w 9999 39 _ _ flds stood]
  simp only [Program.fieldsOf, Try.underlying39]
  simp only [Op.eqFields]
  have p0 : ∀ (a b c : Value) (w : World), (part 9 #[a, b, c] 0).run Try.prog w = .ok a w := fun a b c w => by kernel_rfl
  have p1 : ∀ (a b c : Value) (w : World), (part 3 #[a, b, c] 1).run Try.prog w = .ok b w := fun a b c w => by kernel_rfl
  have p2 : ∀ (a b c : Value) (w : World), (part 4 #[a, b, c] 2).run Try.prog w = .ok c w := fun a b c w => by kernel_rfl
  rw [if_pos (by decide)]
  simp only [Sem.run_bind, p0, Result.andThen, run_equalIn_string w 9998 9 n1 n2 Try.underlying9]
  cases n1.toList == n2.toList
  · simp
  · simp [p1, p2, run_equalIn_int w 9998 3 .i64 .i64 x1 x2 Try.underlying3, run_equalIn_bool' w 9998 4 t1 t2 Try.underlying4]
    by_cases h1 : x1 = x2
    · by_cases h2 : t1 = t2
      · simp [h1, h2]
      · simp [h1, h2]
    · simp [h1]
end Go.Proofs.Ytiblkdedbimggaa.stp
namespace Go.Proofs.Ytiblkdedbimggaa.stp
open Go.ChangeShapes Go.WideShapes Go.ChangeAt Go.RowKit
set_option linter.unusedVariables false
theorem bytes_ext {a b : ByteArray} (e : a.toList = b.toList) : a = b := by
  rw [toList_data, toList_data] at e
  obtain ⟨⟨x⟩⟩ := a
  obtain ⟨⟨y⟩⟩ := b
  simp at e
  rw [e]
theorem alike_any (n1 n2 : ByteArray) (x1 x2 : Int) (t1 t2 : Bool) (w : World) : Calls Try.prog 40 #[.agg #[.string n1, .int .i64 x1, .bool t1], .agg #[.string n2, .int .i64 x2, .bool t2]] w fun e w' => e = .returned (.bool (eqS n1 x1 t1 n2 x2 t2)) ∧ Below w.heap.size w w' := by
  have HA := plain_any n1 x1 t1
  have HB := plain_any n2 x2 t2
  have HE := run_eqStep (pN n1 t1) (pN n2 t2) (pI x1 t1) (pI x2 t2) t1 t2
  go_enter Try.func40, Try.ntmps40
  go_wp2_with fail
  obtain ⟨W, eW, sW, k1, k2, bW⟩ := two_steps w n1 n2 x1 x2 t1 t2 39
  rw [eW]
  clear eW
  obtain ⟨a0, a1, a2⟩ := k1
  obtain ⟨b0, b1, b2⟩ := k2
  have hWl : w.heap.size + 1 < W.heap.size := by omega
  go_region_with (first
      | (go_at_call 62; refine (HA _).mono ?_; clear HA; rintro e w2 ⟨rfl, hb2⟩; have k1 := St3.below ⟨a0, a1, a2⟩ (by omega) ((Below.refl _ _).drew.trans hb2); have k2 := St3.below ⟨b0, b1, b2⟩ (by omega) ((Below.refl _ _).drew.trans hb2); obtain ⟨a0', a1', a2'⟩ := k1; obtain ⟨b0', b1', b2'⟩ := k2; clear a0 a1 a2 b0 b1 b2)
      | (go_at_call 62; refine (HB _).mono ?_; clear HB; rintro e w3 ⟨rfl, hb3⟩))
  all_goals go_wp2
  all_goals go_ret
  all_goals exact ⟨rfl, bW.trans ((((Below.refl _ _).drew.trans hb2).trans (hb3.mono hb2.size)).mono (show w.heap.size ≤ W.heap.size by omega))⟩
theorem eqS_iff (n1 n2 : ByteArray) (x1 x2 : Int) (t1 t2 : Bool) : eqS n1 x1 t1 n2 x2 t2 = (cS ⟨n1, x1, t1⟩ ⟨n2, x2, t2⟩ == 0) := by
  unfold eqS cS
  cases t1
  · cases t2
    · simp [pN, pI]
      rcases cB_tri n1 n2 with ⟨h1, _, h3⟩ | ⟨h1, _, h3⟩ | ⟨h1, _, h3⟩
      · have : n1.toList ≠ n2.toList := fun e => h3 (bytes_ext e)
        simp [h1, this]
      · simp [h1, show n1.toList = n2.toList by rw [h3]]
      · have : n1.toList ≠ n2.toList := fun e => h3 (bytes_ext e)
        simp [h1, this]
    · simp [pN, pI]
  · cases t2
    · simp [pN, pI]
    · simp [pN, pI]
      rcases Int.lt_trichotomy x1 x2 with h | h | h
      · rw [c3_lt h]; simp; omega
      · rw [c3_eq h]; simp [h]
      · rw [c3_gt h]; simp; omega
theorem cS_tri (a b : St) : cS a b = -1 ∨ cS a b = 0 ∨ cS a b = 1 := by
  unfold cS
  cases a.it
  · cases b.it
    · rcases cB_tri a.nm b.nm with ⟨h, _⟩ | ⟨h, _⟩ | ⟨h, _⟩ <;> simp [h]
    · simp
  · cases b.it
    · simp
    · rcases Int.lt_trichotomy a.ix b.ix with h | h | h
      · simp [c3_lt h]
      · simp [c3_eq h]
      · simp [c3_gt h]
end Go.Proofs.Ytiblkdedbimggaa.stp
namespace Go.Proofs.Ytiblkdedbimggaa.stp
open Go.ChangeShapes Go.WideShapes Go.ChangeAt Go.RowKit
set_option linter.unusedVariables false
/-- a path: a slice of steps that is read -/
structure Pth (w : World) (a : Option Addr) (n : Nat) (ss : List St) : Prop where
  len : ss.length = n
  at_ : n = 0 ∨ ∃ b off, a = some ⟨b, off, none⟩ ∧ b < w.heap.size ∧ ∀ i, i < n → ∃ s, ss[i]? = some s ∧ St3 w b (off + i * 3) s.nm s.ix s.it
theorem Pth.below {w w' : World} {a : Option Addr} {n : Nat} {ss : List St} (h : Pth w a n ss) (hb : Below w.heap.size w w') : Pth w' a n ss := by
  refine ⟨h.len, ?_⟩
  rcases h.at_ with h0 | ⟨b, off, ha, hlt, hc⟩
  · exact .inl h0
  · refine .inr ⟨b, off, ha, Nat.lt_of_lt_of_le hlt hb.size, fun i hi => ?_⟩
    obtain ⟨s, hs, k⟩ := hc i hi
    exact ⟨s, hs, k.below hlt hb⟩
def lexS : List St → List St → Int
  | [], [] => 0
  | [], _ :: _ => -1
  | _ :: _, [] => 1
  | a :: l, b :: r => if cS a b = 0 then lexS l r else cS a b
theorem lex_end1 {A B : List St} {k : Nat} (hA : A.length ≤ k) (hB : k < B.length) : lexS (A.drop k) (B.drop k) = -1 := by
  rw [List.drop_eq_nil_of_le hA, List.drop_eq_getElem_cons hB]
  rfl
theorem lex_end2 {A B : List St} {k : Nat} (hA : k < A.length) (hB : B.length ≤ k) : lexS (A.drop k) (B.drop k) = 1 := by
  rw [List.drop_eq_nil_of_le hB, List.drop_eq_getElem_cons hA]
  rfl
theorem lex_end0 {A B : List St} {k : Nat} (hA : A.length ≤ k) (hB : B.length ≤ k) : lexS (A.drop k) (B.drop k) = 0 := by
  rw [List.drop_eq_nil_of_le hB, List.drop_eq_nil_of_le hA]
  rfl
theorem lex_step {A B : List St} {k : Nat} {a b : St} (hA : A[k]? = some a) (hB : B[k]? = some b) : lexS (A.drop k) (B.drop k) = if cS a b = 0 then lexS (A.drop (k + 1)) (B.drop (k + 1)) else cS a b := by
  obtain ⟨h1, rfl⟩ := List.getElem?_eq_some_iff.1 hA
  obtain ⟨h2, rfl⟩ := List.getElem?_eq_some_iff.1 hB
  rw [List.drop_eq_getElem_cons h1, List.drop_eq_getElem_cons h2]
  rfl
theorem lex_ne : ∀ {A B : List St}, A.length ≠ B.length → lexS A B ≠ 0
  | [], [], h => absurd rfl h
  | [], _ :: _, _ => by simp [lexS]
  | _ :: _, [], _ => by simp [lexS]
  | a :: l, b :: r, h => by
    have hlr : l.length ≠ r.length := fun e => h (by simp [e])
    have := lex_ne hlr
    unfold lexS
    by_cases hc : cS a b = 0
    · rw [if_pos hc]; exact this
    · rw [if_neg hc]; exact hc
theorem al2 {w wr w2 : World} {a b : Obj} (h : Below w.heap.size w wr) (h2 : Below ((wr.alloc a).alloc b).heap.size ((wr.alloc a).alloc b) w2) : Below w.heap.size w w2 := by
  have hs := h.size
  exact ((h.alloc hs a).alloc (by simp; omega) b).trans (h2.mono (by simp; omega))
theorem eqFunc_any (aA aB : Option Addr) (nA cA nB cB : Nat) (A B : List St) (w : World) (hA : Pth w aA nA A) (hB : Pth w aB nB B) (bA : nA ≤ 4611686018427387903) (bB : nB ≤ 4611686018427387903) :
    Calls Try.prog 39 #[.slice aA nA cA, .slice aB nB cB, .func (.func 40) #[] #[]] w fun e w' => e = .returned (.bool (lexS A B == 0)) ∧ Below w.heap.size w w' := by
  by_cases hn : nA = nB
  · subst hn
    go_enter Try.func39, Try.ntmps39
    go_wp2_with fail
    go_loopw [17] (fun v wr => ∃ k : Nat, k ≤ nA ∧ v = .int .i64 k ∧ Below w.heap.size w wr ∧ Hid (lexS A B = lexS (A.drop k) (B.drop k))) (fun v _ => nA - (intOf v).toNat)
    case atStart => exact ⟨0, Nat.zero_le _, rfl, Below.refl _ _, rfl⟩
    case round =>
      obtain ⟨k, hkA, rfl, hbk, hl⟩ := hrel
      by_cases hlt : k < nA
      · have ki : (k : Int) < (nA : Int) := by omega
        rcases (hA.below hbk).at_ with h0 | ⟨b, off, rfl, hbw, hcell⟩
        · omega
        obtain ⟨s, hs, u0, u1, u2⟩ := hcell k hlt
        obtain ⟨n1, x1, t1⟩ := s
        have hs := hide hs
        clear hcell
        rcases (hB.below hbk).at_ with h0 | ⟨b', off', rfl, hbw', hcell⟩
        · omega
        obtain ⟨s', hs', v0, v1, v2⟩ := hcell k hlt
        obtain ⟨n2, x2, t2⟩ := s'
        have hs' := hide hs'
        clear hcell
        simp only at u0 u1 u2 v0 v1 v2
        go_wp2_with fail
        refine (alike_any n1 n2 x1 x2 t1 t2 _).mono ?_
        rintro e w2 ⟨rfl, hb2⟩
        have hb2 := al2 hbk hb2
        have hst := hide (lex_step (unhide hs) (unhide hs'))
        rw [eqS_iff]
        by_cases hc : cS ⟨n1, x1, t1⟩ ⟨n2, x2, t2⟩ = 0
        · have hc2 := hide hc
          rw [hc]
          clear hc
          go_wp2
          go_roundw
          case rel => exact ⟨k + 1, by omega, by go_num, hb2, (unhide hl).trans ((unhide hst).trans (if_pos (unhide hc2)))⟩
          case measure => simp [intOf]; omega
        · have hc2 := hide hc
          rw [show (cS ⟨n1, x1, t1⟩ ⟨n2, x2, t2⟩ == 0) = false by simpa using hc]
          clear hc
          go_wp2
          go_ret
          exact ⟨by rw [unhide hl, unhide hst, if_neg (unhide hc2), show (cS ⟨n1, x1, t1⟩ ⟨n2, x2, t2⟩ == 0) = false by simpa using unhide hc2]; rfl, hb2⟩
      · have ki : ¬ (k : Int) < (nA : Int) := by omega
        go_wp2
        go_ret
        exact ⟨by rw [unhide hl, lex_end0 (by rw [hA.len]; omega) (by rw [hB.len]; omega)]; rfl, hbk⟩
  · have hn2 : ¬ (nA : Int) = (nB : Int) := by omega
    have hf := hide (show (lexS A B == 0) = false by simpa using lex_ne (by rw [hA.len, hB.len]; exact hn))
    go_enter Try.func39, Try.ntmps39
    go_wp2
    go_ret
    exact ⟨by rw [unhide hf]; rfl, Below.refl _ _⟩
end Go.Proofs.Ytiblkdedbimggaa.stp
namespace Go.Proofs.Ytiblkdedbimggaa.stp
open Go.ChangeShapes Go.WideShapes Go.ChangeAt Go.RowKit
set_option linter.unusedVariables false
theorem Pth.take {w : World} {a : Option Addr} {n m : Nat} {ss : List St} (h : Pth w a n ss) (hm : m ≤ n) : Pth w a m (ss.take m) := by
  refine ⟨by simp [h.len]; omega, ?_⟩
  rcases h.at_ with h0 | ⟨b, off, ha, hlt, hc⟩
  · exact .inl (by omega)
  · refine .inr ⟨b, off, ha, hlt, fun i hi => ?_⟩
    obtain ⟨s, hs, k⟩ := hc i (by omega)
    exact ⟨s, by rw [List.getElem?_take_of_lt hi]; exact hs, k⟩
/-- does A lie at B or beneath it? -/
def undS (A B : List St) : Bool := decide (B.length ≤ A.length) && lexS (A.take B.length) B == 0
theorem under_any (aA aB : Option Addr) (nA cA nB cB : Nat) (A B : List St) (w : World) (hA : Pth w aA nA A) (hB : Pth w aB nB B) (hc : nA ≤ cA) (hn : aA = none → cA = 0) (bA : nA ≤ 4611686018427387903) (bB : nB ≤ 4611686018427387903) :
    Calls Try.prog 24 #[.slice aA nA cA, .slice aB nB cB] w fun e w' => e = .returned (.bool (undS A B)) ∧ Below w.heap.size w w' := by
  by_cases hle : nB ≤ nA
  · have hl : (nB : Int) ≤ (nA : Int) := by omega
    have hu := hide (show undS A B = (lexS (A.take nB) B == 0) by unfold undS; rw [hA.len, hB.len]; simp [hle])
    go_enter Try.func24, Try.ntmps24
    go_wp2_with fail
    refine (eqFunc_any _ aB nB cA nB cB (A.take nB) B w (hA.take hle) hB bB bB).mono ?_
    rintro e w2 ⟨rfl, hb2⟩
    go_wp2
    go_ret
    exact ⟨by rw [unhide hu]; rfl, hb2⟩
  · have hl : ¬ (nB : Int) ≤ (nA : Int) := by omega
    have hu := hide (show undS A B = false by unfold undS; rw [hA.len, hB.len]; simp [hle])
    go_enter Try.func24, Try.ntmps24
    go_wp2
    go_ret
    exact ⟨by rw [unhide hu]; rfl, Below.refl _ _⟩
theorem lex_self : ∀ A : List St, lexS A A = 0
  | [] => rfl
  | a :: l => by
    have h : cS a a = 0 := by
      have := eqS_iff a.nm a.nm a.ix a.ix a.it a.it
      have e : eqS a.nm a.ix a.it a.nm a.ix a.it = true := by simp [eqS]
      rw [e] at this
      simpa using this.symm
    rw [lexS, if_pos h]
    exact lex_self l
theorem und_self (A : List St) : undS A A = true := by
  unfold undS
  rw [List.take_length, lex_self]
  simp
theorem pth_one (w : World) (b : Nat) (nm : ByteArray) (ix : Int) (it : Bool) (hb : b < w.heap.size) (h : St3 w b 0 nm ix it) : Pth w (some ⟨b, 0, none⟩) 1 [⟨nm, ix, it⟩] :=
  ⟨rfl, .inr ⟨b, 0, rfl, hb, fun i hi => by
    obtain rfl : i = 0 := by omega
    exact ⟨_, rfl, h⟩⟩⟩
end Go.Proofs.Ytiblkdedbimggaa.stp
namespace Go.Proofs.Ytiblkdedbimggaa.vl
open Go.ChangeShapes Go.WideShapes Go.ChangeAt Go.RowKit
open stp (St Pth St3)
set_option linter.unusedVariables false
set_option linter.unusedSimpArgs false
/-- the number of the child to which a step leads -/
def chI : Vl → St → Option Nat
  | .mk kd b n f tx ty its fls, s => if s.it = true then (if kd = 5 ∧ 0 ≤ s.ix ∧ s.ix < its.list.length then some s.ix.toNat else none) else (if kd = 6 then fls.list.findIdx? (fun q => decide (q.1 = s.nm)) else none)
set_option maxHeartbeats 6000000 in
set_option maxRecDepth 6000 in
theorem child_item (b o : Nat) (kd : Int) (ai : Option Addr) (n c : Nat) (nm : ByteArray) (ix : Int) (w : World) (hb : b < w.heap.size) (x0 : w.cell? ⟨b, o, none⟩ = some (.int .i64 kd)) (x6 : w.cell? ⟨b, o + 6, none⟩ = some (.slice ai n c)) (hn : n ≤ 9223372036854775807) (ha : n = 0 ∨ ∃ p off, ai = some ⟨p, off, none⟩) :
    Calls Try.prog 60 #[.pointer (some ⟨b, o, none⟩), .agg #[.string nm, .int .i64 ix, .bool true]] w fun e w' => Below w.heap.size w w' ∧ ((kd = 5 ∧ 0 ≤ ix ∧ ix < n ∧ ∃ p off, ai = some ⟨p, off, none⟩ ∧ e = .returned (.pointer (some ⟨p, off + ix.toNat * 8, none⟩))) ∨ (¬ (kd = 5 ∧ 0 ≤ ix ∧ ix < n) ∧ e = .returned (.pointer none))) := by
  obtain ⟨W, eW⟩ : ∃ W, W = w.alloc (.cells #[.string nm, .int .i64 ix, .bool true] 39) := ⟨_, rfl⟩
  have y0 : W.cell? ⟨b, o, none⟩ = some (.int .i64 kd) := by rw [eW]; exact (World.cell?_alloc_past _ _ _ hb).trans x0
  have y6 : W.cell? ⟨b, o + 6, none⟩ = some (.slice ai n c) := by rw [eW]; exact (World.cell?_alloc_past _ _ _ hb).trans x6
  have s1 : W.cell? ⟨w.heap.size, 1, none⟩ = some (.int .i64 ix) := by rw [eW]; simp
  have bW : Below w.heap.size w W := by rw [eW]; exact (Below.refl _ _).alloc (Nat.le_refl _) _
  have EW := hide eW
  clear x0 x6 eW
  by_cases h5 : kd = 5
  · subst h5
    by_cases hi0 : ix < 0
    · go_enter Try.func60, Try.ntmps60
      go_wp2_with fail
      rw [← unhide EW]
      clear EW
      have hS0 : ({ W with drawn := W.drawn + 1 } : World).cell? ⟨b, o, none⟩ = some (.int .i64 5) ∧ ({ W with drawn := W.drawn + 1 } : World).cell? ⟨b, o + 6, none⟩ = some (.slice ai n c) ∧ ({ W with drawn := W.drawn + 1 } : World).cell? ⟨w.heap.size, 1, none⟩ = some (.int .i64 ix) := ⟨y0, y6, s1⟩
      clear y0 y6 s1
      refine wp_region_noPanic ?_
      refine wp_region_held (S := fun w' => w'.cell? ⟨b, o, none⟩ = some (.int .i64 5) ∧ w'.cell? ⟨b, o + 6, none⟩ = some (.slice ai n c) ∧ w'.cell? ⟨w.heap.size, 1, none⟩ = some (.int .i64 ix)) mixed ?_
      refine wpAnyH_take (i := 0) (v := ?v1) rfl (by kernel_rfl) (by kernel_rfl) (by kernel_rfl) (fun _ _ _ h => h) (Or.inl ⟨by rfl, ?hy1⟩) hS0 ?_
      case hy1 => (intro w' hw'; obtain ⟨c0, c6, c1⟩ := hw'; go_simp; try with_reducible rfl)
      simp only [List.getElem_toArray, List.getElem_cons_zero, List.getElem_cons_succ, Act.put, List.setIfInBounds_toArray, List.set_cons_zero, List.set_cons_succ]
      refine wpAnyH_take (i := 1) (v := ?v2) rfl (by kernel_rfl) (by kernel_rfl) (by kernel_rfl) (fun _ _ _ h => h) (Or.inl ⟨by rfl, ?hy2⟩) hS0 ?_
      case hy2 => (intro w' hw'; obtain ⟨c0, c6, c1⟩ := hw'; go_simp; try with_reducible rfl)
      simp only [List.getElem_toArray, List.getElem_cons_zero, List.getElem_cons_succ, Act.put, List.setIfInBounds_toArray, List.set_cons_zero, List.set_cons_succ]
      refine wpAnyH_take (i := 2) (v := ?v3) rfl (by kernel_rfl) (by kernel_rfl) (by kernel_rfl) (fun _ _ _ h => h) (Or.inl ⟨by rfl, ?hy3⟩) hS0 ?_
      case hy3 => (intro w' hw'; obtain ⟨c0, c6, c1⟩ := hw'; go_simp; try with_reducible rfl)
      simp only [List.getElem_toArray, List.getElem_cons_zero, List.getElem_cons_succ, Act.put, List.setIfInBounds_toArray, List.set_cons_zero, List.set_cons_succ]
      refine wpAnyH_take (i := 3) (v := ?v4) rfl (by kernel_rfl) (by kernel_rfl) (by kernel_rfl) (fun _ _ _ h => h) (Or.inl ⟨by rfl, ?hy4⟩) hS0 ?_
      case hy4 => (intro w' hw'; obtain ⟨c0, c6, c1⟩ := hw'; go_simp; try with_reducible rfl)
      simp only [List.getElem_toArray, List.getElem_cons_zero, List.getElem_cons_succ, Act.put, List.setIfInBounds_toArray, List.set_cons_zero, List.set_cons_succ]
      refine wpAnyH_take (i := 4) (v := ?v5) rfl (by kernel_rfl) (by kernel_rfl) (by kernel_rfl) (fun _ _ _ h => h) (Or.inl ⟨by rfl, ?hy5⟩) hS0 ?_
      case hy5 => (intro w' hw'; obtain ⟨c0, c6, c1⟩ := hw'; go_simp; try with_reducible rfl)
      simp only [List.getElem_toArray, List.getElem_cons_zero, List.getElem_cons_succ, Act.put, List.setIfInBounds_toArray, List.set_cons_zero, List.set_cons_succ]
      refine wpAnyH_take (i := 5) (v := ?v6) rfl (by kernel_rfl) (by kernel_rfl) (by kernel_rfl) (fun _ _ _ h => h) (Or.inl ⟨by rfl, ?hy6⟩) hS0 ?_
      case hy6 => (intro w' hw'; obtain ⟨c0, c6, c1⟩ := hw'; go_simp; try with_reducible rfl)
      simp only [List.getElem_toArray, List.getElem_cons_zero, List.getElem_cons_succ, Act.put, List.setIfInBounds_toArray, List.set_cons_zero, List.set_cons_succ]
      refine wpAnyH_take (i := 6) (v := ?v7) rfl (by kernel_rfl) (by kernel_rfl) (by kernel_rfl) (fun _ _ _ h => h) (Or.inl ⟨by rfl, ?hy7⟩) hS0 ?_
      case hy7 => (intro w' hw'; obtain ⟨c0, c6, c1⟩ := hw'; go_simp; try with_reducible rfl)
      simp only [List.getElem_toArray, List.getElem_cons_zero, List.getElem_cons_succ, Act.put, List.setIfInBounds_toArray, List.set_cons_zero, List.set_cons_succ]
      refine wpAnyH_take (i := 7) (v := ?v8) rfl (by kernel_rfl) (by kernel_rfl) (by kernel_rfl) (fun _ _ _ h => h) (Or.inl ⟨by rfl, ?hy8⟩) hS0 ?_
      case hy8 => (intro w' hw'; obtain ⟨c0, c6, c1⟩ := hw'; go_simp; try with_reducible rfl)
      simp only [List.getElem_toArray, List.getElem_cons_zero, List.getElem_cons_succ, Act.put, List.setIfInBounds_toArray, List.set_cons_zero, List.set_cons_succ]
      refine wpAnyH_take (i := 8) (v := ?v9) rfl (by kernel_rfl) (by kernel_rfl) (by kernel_rfl) (fun _ _ _ h => h) (Or.inl ⟨by rfl, ?hy9⟩) hS0 ?_
      case hy9 => (intro w' hw'; obtain ⟨c0, c6, c1⟩ := hw'; go_simp; try with_reducible rfl)
      simp only [List.getElem_toArray, List.getElem_cons_zero, List.getElem_cons_succ, Act.put, List.setIfInBounds_toArray, List.set_cons_zero, List.set_cons_succ]
      refine wpAnyH_take (i := 9) (v := ?v10) rfl (by kernel_rfl) (by kernel_rfl) (by kernel_rfl) (fun _ _ _ h => h) (Or.inl ⟨by rfl, ?hy10⟩) hS0 ?_
      case hy10 => (intro w' hw'; obtain ⟨c0, c6, c1⟩ := hw'; go_simp; try with_reducible rfl)
      simp only [List.getElem_toArray, List.getElem_cons_zero, List.getElem_cons_succ, Act.put, List.setIfInBounds_toArray, List.set_cons_zero, List.set_cons_succ]
      refine wpAnyH_take (i := 10) (v := ?v11) rfl (by kernel_rfl) (by kernel_rfl) (by kernel_rfl) (fun _ _ _ h => h) (Or.inl ⟨by rfl, ?hy11⟩) hS0 ?_
      case hy11 => (intro w' hw'; obtain ⟨c0, c6, c1⟩ := hw'; go_simp; try with_reducible rfl)
      simp only [List.getElem_toArray, List.getElem_cons_zero, List.getElem_cons_succ, Act.put, List.setIfInBounds_toArray, List.set_cons_zero, List.set_cons_succ]
      refine wpAnyH_take (i := 11) (v := undef) rfl (by kernel_rfl) (by kernel_rfl) (by kernel_rfl) (fun _ _ _ h => h) (Or.inr ⟨by rfl, rfl⟩) hS0 ?_
      simp only [List.getElem_toArray, List.getElem_cons_zero, List.getElem_cons_succ, Act.put, List.setIfInBounds_toArray, List.set_cons_zero, List.set_cons_succ]
      refine wpAnyH_take (i := 12) (v := undef) rfl (by kernel_rfl) (by kernel_rfl) (by kernel_rfl) (fun _ _ _ h => h) (Or.inr ⟨by rfl, rfl⟩) hS0 ?_
      simp only [List.getElem_toArray, List.getElem_cons_zero, List.getElem_cons_succ, Act.put, List.setIfInBounds_toArray, List.set_cons_zero, List.set_cons_succ]
      refine wpAnyH_take (i := 13) (v := undef) rfl (by kernel_rfl) (by kernel_rfl) (by kernel_rfl) (fun _ _ _ h => h) (Or.inr ⟨by rfl, rfl⟩) hS0 ?_
      simp only [List.getElem_toArray, List.getElem_cons_zero, List.getElem_cons_succ, Act.put, List.setIfInBounds_toArray, List.set_cons_zero, List.set_cons_succ]
      refine wpAnyH_take (i := 14) (v := undef) rfl (by kernel_rfl) (by kernel_rfl) (by kernel_rfl) (fun _ _ _ h => h) (Or.inr ⟨by rfl, rfl⟩) hS0 ?_
      simp only [List.getElem_toArray, List.getElem_cons_zero, List.getElem_cons_succ, Act.put, List.setIfInBounds_toArray, List.set_cons_zero, List.set_cons_succ]
      refine wpAnyH_take (i := 15) (v := undef) rfl (by kernel_rfl) (by kernel_rfl) (by kernel_rfl) (fun _ _ _ h => h) (Or.inr ⟨by rfl, rfl⟩) hS0 ?_
      simp only [List.getElem_toArray, List.getElem_cons_zero, List.getElem_cons_succ, Act.put, List.setIfInBounds_toArray, List.set_cons_zero, List.set_cons_succ]
      refine wpAnyH_take (i := 16) (v := undef) rfl (by kernel_rfl) (by kernel_rfl) (by kernel_rfl) (fun _ _ _ h => h) (Or.inr ⟨by rfl, rfl⟩) hS0 ?_
      simp only [List.getElem_toArray, List.getElem_cons_zero, List.getElem_cons_succ, Act.put, List.setIfInBounds_toArray, List.set_cons_zero, List.set_cons_succ]
      refine wpAnyH_take (i := 17) (v := undef) rfl (by kernel_rfl) (by kernel_rfl) (by kernel_rfl) (fun _ _ _ h => h) (Or.inr ⟨by rfl, rfl⟩) hS0 ?_
      simp only [List.getElem_toArray, List.getElem_cons_zero, List.getElem_cons_succ, Act.put, List.setIfInBounds_toArray, List.set_cons_zero, List.set_cons_succ]
      refine wpAnyH_take (i := 18) (v := undef) rfl (by kernel_rfl) (by kernel_rfl) (by kernel_rfl) (fun _ _ _ h => h) (Or.inr ⟨by rfl, rfl⟩) hS0 ?_
      simp only [List.getElem_toArray, List.getElem_cons_zero, List.getElem_cons_succ, Act.put, List.setIfInBounds_toArray, List.set_cons_zero, List.set_cons_succ]
      refine wpAnyH_take (i := 19) (v := ?v12) rfl (by kernel_rfl) (by kernel_rfl) (by kernel_rfl) (fun _ _ _ h => h) (Or.inl ⟨by rfl, ?hy12⟩) hS0 ?_
      case hy12 => (intro w' hw'; obtain ⟨c0, c6, c1⟩ := hw'; go_simp; try with_reducible rfl)
      simp only [List.getElem_toArray, List.getElem_cons_zero, List.getElem_cons_succ, Act.put, List.setIfInBounds_toArray, List.set_cons_zero, List.set_cons_succ]
      refine wpAnyH_done (by kernel_rfl) ?_ _; refine NoPanic.normal ?_
      have bW1 : Below w.heap.size w { W with drawn := W.drawn + 1 } := bW.drew
      generalize ({ W with drawn := W.drawn + 1 } : World) = W1 at *
      go_wp2
      go_ret
      exact ⟨bW1, .inr ⟨by omega, rfl⟩⟩
    · have hd0 : decide (ix < 0) = false := by simp; omega
      by_cases hin : ix < n
      · have hd1 : decide ((n : Int) ≤ ix) = false := by simp; omega
        obtain ⟨p, off, rfl⟩ : ∃ p off, ai = some ⟨p, off, none⟩ := by
          rcases ha with h | h
          · omega
          · exact h
        obtain ⟨k, rfl⟩ : ∃ k : Nat, ix = k := ⟨ix.toNat, by omega⟩
        have hk0 : (0 : Int) ≤ (k : Int) := by omega
        go_enter Try.func60, Try.ntmps60
        go_wp2_with fail
        rw [← unhide EW]
        clear EW
        have hS0 : ({ W with drawn := W.drawn + 1 } : World).cell? ⟨b, o, none⟩ = some (.int .i64 5) ∧ ({ W with drawn := W.drawn + 1 } : World).cell? ⟨b, o + 6, none⟩ = some (.slice (some ⟨p, off, none⟩) n c) ∧ ({ W with drawn := W.drawn + 1 } : World).cell? ⟨w.heap.size, 1, none⟩ = some (.int .i64 k) := ⟨y0, y6, s1⟩
        clear y0 y6 s1
        refine wp_region_noPanic ?_
        refine wp_region_held (S := fun w' => w'.cell? ⟨b, o, none⟩ = some (.int .i64 5) ∧ w'.cell? ⟨b, o + 6, none⟩ = some (.slice (some ⟨p, off, none⟩) n c) ∧ w'.cell? ⟨w.heap.size, 1, none⟩ = some (.int .i64 k)) mixed ?_
        refine wpAnyH_take (i := 0) (v := ?v13) rfl (by kernel_rfl) (by kernel_rfl) (by kernel_rfl) (fun _ _ _ h => h) (Or.inl ⟨by rfl, ?hy13⟩) hS0 ?_
        case hy13 => (intro w' hw'; obtain ⟨c0, c6, c1⟩ := hw'; go_simp; try with_reducible rfl)
        simp only [List.getElem_toArray, List.getElem_cons_zero, List.getElem_cons_succ, Act.put, List.setIfInBounds_toArray, List.set_cons_zero, List.set_cons_succ]
        refine wpAnyH_take (i := 1) (v := ?v14) rfl (by kernel_rfl) (by kernel_rfl) (by kernel_rfl) (fun _ _ _ h => h) (Or.inl ⟨by rfl, ?hy14⟩) hS0 ?_
        case hy14 => (intro w' hw'; obtain ⟨c0, c6, c1⟩ := hw'; go_simp; try with_reducible rfl)
        simp only [List.getElem_toArray, List.getElem_cons_zero, List.getElem_cons_succ, Act.put, List.setIfInBounds_toArray, List.set_cons_zero, List.set_cons_succ]
        refine wpAnyH_take (i := 2) (v := ?v15) rfl (by kernel_rfl) (by kernel_rfl) (by kernel_rfl) (fun _ _ _ h => h) (Or.inl ⟨by rfl, ?hy15⟩) hS0 ?_
        case hy15 => (intro w' hw'; obtain ⟨c0, c6, c1⟩ := hw'; go_simp; try with_reducible rfl)
        simp only [List.getElem_toArray, List.getElem_cons_zero, List.getElem_cons_succ, Act.put, List.setIfInBounds_toArray, List.set_cons_zero, List.set_cons_succ]
        refine wpAnyH_take (i := 3) (v := ?v16) rfl (by kernel_rfl) (by kernel_rfl) (by kernel_rfl) (fun _ _ _ h => h) (Or.inl ⟨by rfl, ?hy16⟩) hS0 ?_
        case hy16 => (intro w' hw'; obtain ⟨c0, c6, c1⟩ := hw'; go_simp; try with_reducible rfl)
        simp only [List.getElem_toArray, List.getElem_cons_zero, List.getElem_cons_succ, Act.put, List.setIfInBounds_toArray, List.set_cons_zero, List.set_cons_succ]
        refine wpAnyH_take (i := 4) (v := ?v17) rfl (by kernel_rfl) (by kernel_rfl) (by kernel_rfl) (fun _ _ _ h => h) (Or.inl ⟨by rfl, ?hy17⟩) hS0 ?_
        case hy17 => (intro w' hw'; obtain ⟨c0, c6, c1⟩ := hw'; go_simp; try with_reducible rfl)
        simp only [List.getElem_toArray, List.getElem_cons_zero, List.getElem_cons_succ, Act.put, List.setIfInBounds_toArray, List.set_cons_zero, List.set_cons_succ]
        refine wpAnyH_take (i := 5) (v := ?v18) rfl (by kernel_rfl) (by kernel_rfl) (by kernel_rfl) (fun _ _ _ h => h) (Or.inl ⟨by rfl, ?hy18⟩) hS0 ?_
        case hy18 => (intro w' hw'; obtain ⟨c0, c6, c1⟩ := hw'; go_simp; try with_reducible rfl)
        simp only [List.getElem_toArray, List.getElem_cons_zero, List.getElem_cons_succ, Act.put, List.setIfInBounds_toArray, List.set_cons_zero, List.set_cons_succ]
        refine wpAnyH_take (i := 6) (v := ?v19) rfl (by kernel_rfl) (by kernel_rfl) (by kernel_rfl) (fun _ _ _ h => h) (Or.inl ⟨by rfl, ?hy19⟩) hS0 ?_
        case hy19 => (intro w' hw'; obtain ⟨c0, c6, c1⟩ := hw'; go_simp; try with_reducible rfl)
        simp only [List.getElem_toArray, List.getElem_cons_zero, List.getElem_cons_succ, Act.put, List.setIfInBounds_toArray, List.set_cons_zero, List.set_cons_succ]
        refine wpAnyH_take (i := 7) (v := ?v20) rfl (by kernel_rfl) (by kernel_rfl) (by kernel_rfl) (fun _ _ _ h => h) (Or.inl ⟨by rfl, ?hy20⟩) hS0 ?_
        case hy20 => (intro w' hw'; obtain ⟨c0, c6, c1⟩ := hw'; go_simp; try with_reducible rfl)
        simp only [List.getElem_toArray, List.getElem_cons_zero, List.getElem_cons_succ, Act.put, List.setIfInBounds_toArray, List.set_cons_zero, List.set_cons_succ]
        refine wpAnyH_take (i := 8) (v := ?v21) rfl (by kernel_rfl) (by kernel_rfl) (by kernel_rfl) (fun _ _ _ h => h) (Or.inl ⟨by rfl, ?hy21⟩) hS0 ?_
        case hy21 => (intro w' hw'; obtain ⟨c0, c6, c1⟩ := hw'; go_simp; try with_reducible rfl)
        simp only [List.getElem_toArray, List.getElem_cons_zero, List.getElem_cons_succ, Act.put, List.setIfInBounds_toArray, List.set_cons_zero, List.set_cons_succ]
        refine wpAnyH_take (i := 9) (v := ?v22) rfl (by kernel_rfl) (by kernel_rfl) (by kernel_rfl) (fun _ _ _ h => h) (Or.inl ⟨by rfl, ?hy22⟩) hS0 ?_
        case hy22 => (intro w' hw'; obtain ⟨c0, c6, c1⟩ := hw'; go_simp; try with_reducible rfl)
        simp only [List.getElem_toArray, List.getElem_cons_zero, List.getElem_cons_succ, Act.put, List.setIfInBounds_toArray, List.set_cons_zero, List.set_cons_succ]
        refine wpAnyH_take (i := 10) (v := ?v23) rfl (by kernel_rfl) (by kernel_rfl) (by kernel_rfl) (fun _ _ _ h => h) (Or.inl ⟨by rfl, ?hy23⟩) hS0 ?_
        case hy23 => (intro w' hw'; obtain ⟨c0, c6, c1⟩ := hw'; go_simp; try with_reducible rfl)
        simp only [List.getElem_toArray, List.getElem_cons_zero, List.getElem_cons_succ, Act.put, List.setIfInBounds_toArray, List.set_cons_zero, List.set_cons_succ]
        refine wpAnyH_take (i := 11) (v := ?v24) rfl (by kernel_rfl) (by kernel_rfl) (by kernel_rfl) (fun _ _ _ h => h) (Or.inl ⟨by rfl, ?hy24⟩) hS0 ?_
        case hy24 => (intro w' hw'; obtain ⟨c0, c6, c1⟩ := hw'; go_simp; try with_reducible rfl)
        simp only [List.getElem_toArray, List.getElem_cons_zero, List.getElem_cons_succ, Act.put, List.setIfInBounds_toArray, List.set_cons_zero, List.set_cons_succ]
        refine wpAnyH_take (i := 12) (v := ?v25) rfl (by kernel_rfl) (by kernel_rfl) (by kernel_rfl) (fun _ _ _ h => h) (Or.inl ⟨by rfl, ?hy25⟩) hS0 ?_
        case hy25 => (intro w' hw'; obtain ⟨c0, c6, c1⟩ := hw'; go_simp; try with_reducible rfl)
        simp only [List.getElem_toArray, List.getElem_cons_zero, List.getElem_cons_succ, Act.put, List.setIfInBounds_toArray, List.set_cons_zero, List.set_cons_succ]
        refine wpAnyH_take (i := 13) (v := ?v26) rfl (by kernel_rfl) (by kernel_rfl) (by kernel_rfl) (fun _ _ _ h => h) (Or.inl ⟨by rfl, ?hy26⟩) hS0 ?_
        case hy26 => (intro w' hw'; obtain ⟨c0, c6, c1⟩ := hw'; go_simp; try with_reducible rfl)
        simp only [List.getElem_toArray, List.getElem_cons_zero, List.getElem_cons_succ, Act.put, List.setIfInBounds_toArray, List.set_cons_zero, List.set_cons_succ]
        refine wpAnyH_take (i := 14) (v := ?v27) rfl (by kernel_rfl) (by kernel_rfl) (by kernel_rfl) (fun _ _ _ h => h) (Or.inl ⟨by rfl, ?hy27⟩) hS0 ?_
        case hy27 => (intro w' hw'; obtain ⟨c0, c6, c1⟩ := hw'; go_simp; try with_reducible rfl)
        simp only [List.getElem_toArray, List.getElem_cons_zero, List.getElem_cons_succ, Act.put, List.setIfInBounds_toArray, List.set_cons_zero, List.set_cons_succ]
        refine wpAnyH_take (i := 15) (v := ?v28) rfl (by kernel_rfl) (by kernel_rfl) (by kernel_rfl) (fun _ _ _ h => h) (Or.inl ⟨by rfl, ?hy28⟩) hS0 ?_
        case hy28 => (intro w' hw'; obtain ⟨c0, c6, c1⟩ := hw'; go_simp; try with_reducible rfl)
        simp only [List.getElem_toArray, List.getElem_cons_zero, List.getElem_cons_succ, Act.put, List.setIfInBounds_toArray, List.set_cons_zero, List.set_cons_succ]
        refine wpAnyH_take (i := 16) (v := ?v29) rfl (by kernel_rfl) (by kernel_rfl) (by kernel_rfl) (fun _ _ _ h => h) (Or.inl ⟨by rfl, ?hy29⟩) hS0 ?_
        case hy29 => (intro w' hw'; obtain ⟨c0, c6, c1⟩ := hw'; go_simp; try with_reducible rfl)
        simp only [List.getElem_toArray, List.getElem_cons_zero, List.getElem_cons_succ, Act.put, List.setIfInBounds_toArray, List.set_cons_zero, List.set_cons_succ]
        refine wpAnyH_take (i := 17) (v := ?v30) rfl (by kernel_rfl) (by kernel_rfl) (by kernel_rfl) (fun _ _ _ h => h) (Or.inl ⟨by rfl, ?hy30⟩) hS0 ?_
        case hy30 => (intro w' hw'; obtain ⟨c0, c6, c1⟩ := hw'; go_simp; try with_reducible rfl)
        simp only [List.getElem_toArray, List.getElem_cons_zero, List.getElem_cons_succ, Act.put, List.setIfInBounds_toArray, List.set_cons_zero, List.set_cons_succ]
        refine wpAnyH_take (i := 18) (v := ?v31) rfl (by kernel_rfl) (by kernel_rfl) (by kernel_rfl) (fun _ _ _ h => h) (Or.inl ⟨by rfl, ?hy31⟩) hS0 ?_
        case hy31 => (intro w' hw'; obtain ⟨c0, c6, c1⟩ := hw'; go_simp; try with_reducible rfl)
        simp only [List.getElem_toArray, List.getElem_cons_zero, List.getElem_cons_succ, Act.put, List.setIfInBounds_toArray, List.set_cons_zero, List.set_cons_succ]
        refine wpAnyH_take (i := 19) (v := ?v32) rfl (by kernel_rfl) (by kernel_rfl) (by kernel_rfl) (fun _ _ _ h => h) (Or.inl ⟨by rfl, ?hy32⟩) hS0 ?_
        case hy32 => (intro w' hw'; obtain ⟨c0, c6, c1⟩ := hw'; go_simp; try with_reducible rfl)
        simp only [List.getElem_toArray, List.getElem_cons_zero, List.getElem_cons_succ, Act.put, List.setIfInBounds_toArray, List.set_cons_zero, List.set_cons_succ]
        refine wpAnyH_done (by kernel_rfl) ?_ _; refine NoPanic.normal ?_
        have bW1 : Below w.heap.size w { W with drawn := W.drawn + 1 } := bW.drew
        generalize ({ W with drawn := W.drawn + 1 } : World) = W1 at *
        go_wp2_with fail
        obtain ⟨y0, y6, s1⟩ := hS0
        have hS0 : ({ W1 with drawn := W1.drawn + 1 } : World).cell? ⟨b, o + 6, none⟩ = some (.slice (some ⟨p, off, none⟩) n c) ∧ ({ W1 with drawn := W1.drawn + 1 } : World).cell? ⟨w.heap.size, 1, none⟩ = some (.int .i64 k) := ⟨y6, s1⟩
        clear y0 y6 s1
        refine wp_region_noPanic ?_
        refine wp_region_held (S := fun w' => w'.cell? ⟨b, o + 6, none⟩ = some (.slice (some ⟨p, off, none⟩) n c) ∧ w'.cell? ⟨w.heap.size, 1, none⟩ = some (.int .i64 k)) mixed ?_
        refine wpAnyH_take (i := 0) (v := ?v33) rfl (by kernel_rfl) (by kernel_rfl) (by kernel_rfl) (fun _ _ _ h => h) (Or.inl ⟨by rfl, ?hy33⟩) hS0 ?_
        case hy33 => (intro w' hw'; obtain ⟨c6, c1⟩ := hw'; go_simp; try with_reducible rfl)
        simp only [List.getElem_toArray, List.getElem_cons_zero, List.getElem_cons_succ, Act.put, List.setIfInBounds_toArray, List.set_cons_zero, List.set_cons_succ]
        refine wpAnyH_take (i := 1) (v := ?v34) rfl (by kernel_rfl) (by kernel_rfl) (by kernel_rfl) (fun _ _ _ h => h) (Or.inl ⟨by rfl, ?hy34⟩) hS0 ?_
        case hy34 => (intro w' hw'; obtain ⟨c6, c1⟩ := hw'; go_simp; try with_reducible rfl)
        simp only [List.getElem_toArray, List.getElem_cons_zero, List.getElem_cons_succ, Act.put, List.setIfInBounds_toArray, List.set_cons_zero, List.set_cons_succ]
        refine wpAnyH_take (i := 2) (v := ?v35) rfl (by kernel_rfl) (by kernel_rfl) (by kernel_rfl) (fun _ _ _ h => h) (Or.inl ⟨by rfl, ?hy35⟩) hS0 ?_
        case hy35 => (intro w' hw'; obtain ⟨c6, c1⟩ := hw'; go_simp; try with_reducible rfl)
        simp only [List.getElem_toArray, List.getElem_cons_zero, List.getElem_cons_succ, Act.put, List.setIfInBounds_toArray, List.set_cons_zero, List.set_cons_succ]
        refine wpAnyH_take (i := 3) (v := ?v36) rfl (by kernel_rfl) (by kernel_rfl) (by kernel_rfl) (fun _ _ _ h => h) (Or.inl ⟨by rfl, ?hy36⟩) hS0 ?_
        case hy36 => (intro w' hw'; obtain ⟨c6, c1⟩ := hw'; go_simp; try with_reducible rfl)
        simp only [List.getElem_toArray, List.getElem_cons_zero, List.getElem_cons_succ, Act.put, List.setIfInBounds_toArray, List.set_cons_zero, List.set_cons_succ]
        refine wpAnyH_take (i := 4) (v := ?v37) rfl (by kernel_rfl) (by kernel_rfl) (by kernel_rfl) (fun _ _ _ h => h) (Or.inl ⟨by rfl, ?hy37⟩) hS0 ?_
        case hy37 => (intro w' hw'; obtain ⟨c6, c1⟩ := hw'; go_simp; try with_reducible rfl)
        simp only [List.getElem_toArray, List.getElem_cons_zero, List.getElem_cons_succ, Act.put, List.setIfInBounds_toArray, List.set_cons_zero, List.set_cons_succ]
        refine wpAnyH_take (i := 5) (v := ?v38) rfl (by kernel_rfl) (by kernel_rfl) (by kernel_rfl) (fun _ _ _ h => h) (Or.inl ⟨by rfl, ?hy38⟩) hS0 ?_
        case hy38 => (intro w' hw'; obtain ⟨c6, c1⟩ := hw'; go_simp; try with_reducible rfl)
        simp only [List.getElem_toArray, List.getElem_cons_zero, List.getElem_cons_succ, Act.put, List.setIfInBounds_toArray, List.set_cons_zero, List.set_cons_succ]
        refine wpAnyH_take (i := 6) (v := ?v39) rfl (by kernel_rfl) (by kernel_rfl) (by kernel_rfl) (fun _ _ _ h => h) (Or.inl ⟨by rfl, ?hy39⟩) hS0 ?_
        case hy39 => (intro w' hw'; obtain ⟨c6, c1⟩ := hw'; go_simp; try with_reducible rfl)
        simp only [List.getElem_toArray, List.getElem_cons_zero, List.getElem_cons_succ, Act.put, List.setIfInBounds_toArray, List.set_cons_zero, List.set_cons_succ]
        refine wpAnyH_take (i := 7) (v := ?v40) rfl (by kernel_rfl) (by kernel_rfl) (by kernel_rfl) (fun _ _ _ h => h) (Or.inl ⟨by rfl, ?hy40⟩) hS0 ?_
        case hy40 => (intro w' hw'; obtain ⟨c6, c1⟩ := hw'; go_simp; try with_reducible rfl)
        simp only [List.getElem_toArray, List.getElem_cons_zero, List.getElem_cons_succ, Act.put, List.setIfInBounds_toArray, List.set_cons_zero, List.set_cons_succ]
        refine wpAnyH_done (by kernel_rfl) ?_ _; refine NoPanic.normal ?_
        have bW2 : Below w.heap.size w { W1 with drawn := W1.drawn + 1 } := bW1.drew
        generalize ({ W1 with drawn := W1.drawn + 1 } : World) = W2 at *
        go_wp2
        go_ret
        exact ⟨bW2, .inl ⟨(by first | rfl | trivial), hk0, hin, p, off, rfl, by simp⟩⟩
      · have hd1 : decide ((n : Int) ≤ ix) = true := by simp; omega
        go_enter Try.func60, Try.ntmps60
        go_wp2_with fail
        rw [← unhide EW]
        clear EW
        have hS0 : ({ W with drawn := W.drawn + 1 } : World).cell? ⟨b, o, none⟩ = some (.int .i64 5) ∧ ({ W with drawn := W.drawn + 1 } : World).cell? ⟨b, o + 6, none⟩ = some (.slice ai n c) ∧ ({ W with drawn := W.drawn + 1 } : World).cell? ⟨w.heap.size, 1, none⟩ = some (.int .i64 ix) := ⟨y0, y6, s1⟩
        clear y0 y6 s1
        refine wp_region_noPanic ?_
        refine wp_region_held (S := fun w' => w'.cell? ⟨b, o, none⟩ = some (.int .i64 5) ∧ w'.cell? ⟨b, o + 6, none⟩ = some (.slice ai n c) ∧ w'.cell? ⟨w.heap.size, 1, none⟩ = some (.int .i64 ix)) mixed ?_
        refine wpAnyH_take (i := 0) (v := ?v41) rfl (by kernel_rfl) (by kernel_rfl) (by kernel_rfl) (fun _ _ _ h => h) (Or.inl ⟨by rfl, ?hy41⟩) hS0 ?_
        case hy41 => (intro w' hw'; obtain ⟨c0, c6, c1⟩ := hw'; go_simp; try with_reducible rfl)
        simp only [List.getElem_toArray, List.getElem_cons_zero, List.getElem_cons_succ, Act.put, List.setIfInBounds_toArray, List.set_cons_zero, List.set_cons_succ]
        refine wpAnyH_take (i := 1) (v := ?v42) rfl (by kernel_rfl) (by kernel_rfl) (by kernel_rfl) (fun _ _ _ h => h) (Or.inl ⟨by rfl, ?hy42⟩) hS0 ?_
        case hy42 => (intro w' hw'; obtain ⟨c0, c6, c1⟩ := hw'; go_simp; try with_reducible rfl)
        simp only [List.getElem_toArray, List.getElem_cons_zero, List.getElem_cons_succ, Act.put, List.setIfInBounds_toArray, List.set_cons_zero, List.set_cons_succ]
        refine wpAnyH_take (i := 2) (v := ?v43) rfl (by kernel_rfl) (by kernel_rfl) (by kernel_rfl) (fun _ _ _ h => h) (Or.inl ⟨by rfl, ?hy43⟩) hS0 ?_
        case hy43 => (intro w' hw'; obtain ⟨c0, c6, c1⟩ := hw'; go_simp; try with_reducible rfl)
        simp only [List.getElem_toArray, List.getElem_cons_zero, List.getElem_cons_succ, Act.put, List.setIfInBounds_toArray, List.set_cons_zero, List.set_cons_succ]
        refine wpAnyH_take (i := 3) (v := ?v44) rfl (by kernel_rfl) (by kernel_rfl) (by kernel_rfl) (fun _ _ _ h => h) (Or.inl ⟨by rfl, ?hy44⟩) hS0 ?_
        case hy44 => (intro w' hw'; obtain ⟨c0, c6, c1⟩ := hw'; go_simp; try with_reducible rfl)
        simp only [List.getElem_toArray, List.getElem_cons_zero, List.getElem_cons_succ, Act.put, List.setIfInBounds_toArray, List.set_cons_zero, List.set_cons_succ]
        refine wpAnyH_take (i := 4) (v := ?v45) rfl (by kernel_rfl) (by kernel_rfl) (by kernel_rfl) (fun _ _ _ h => h) (Or.inl ⟨by rfl, ?hy45⟩) hS0 ?_
        case hy45 => (intro w' hw'; obtain ⟨c0, c6, c1⟩ := hw'; go_simp; try with_reducible rfl)
        simp only [List.getElem_toArray, List.getElem_cons_zero, List.getElem_cons_succ, Act.put, List.setIfInBounds_toArray, List.set_cons_zero, List.set_cons_succ]
        refine wpAnyH_take (i := 5) (v := ?v46) rfl (by kernel_rfl) (by kernel_rfl) (by kernel_rfl) (fun _ _ _ h => h) (Or.inl ⟨by rfl, ?hy46⟩) hS0 ?_
        case hy46 => (intro w' hw'; obtain ⟨c0, c6, c1⟩ := hw'; go_simp; try with_reducible rfl)
        simp only [List.getElem_toArray, List.getElem_cons_zero, List.getElem_cons_succ, Act.put, List.setIfInBounds_toArray, List.set_cons_zero, List.set_cons_succ]
        refine wpAnyH_take (i := 6) (v := ?v47) rfl (by kernel_rfl) (by kernel_rfl) (by kernel_rfl) (fun _ _ _ h => h) (Or.inl ⟨by rfl, ?hy47⟩) hS0 ?_
        case hy47 => (intro w' hw'; obtain ⟨c0, c6, c1⟩ := hw'; go_simp; try with_reducible rfl)
        simp only [List.getElem_toArray, List.getElem_cons_zero, List.getElem_cons_succ, Act.put, List.setIfInBounds_toArray, List.set_cons_zero, List.set_cons_succ]
        refine wpAnyH_take (i := 7) (v := ?v48) rfl (by kernel_rfl) (by kernel_rfl) (by kernel_rfl) (fun _ _ _ h => h) (Or.inl ⟨by rfl, ?hy48⟩) hS0 ?_
        case hy48 => (intro w' hw'; obtain ⟨c0, c6, c1⟩ := hw'; go_simp; try with_reducible rfl)
        simp only [List.getElem_toArray, List.getElem_cons_zero, List.getElem_cons_succ, Act.put, List.setIfInBounds_toArray, List.set_cons_zero, List.set_cons_succ]
        refine wpAnyH_take (i := 8) (v := ?v49) rfl (by kernel_rfl) (by kernel_rfl) (by kernel_rfl) (fun _ _ _ h => h) (Or.inl ⟨by rfl, ?hy49⟩) hS0 ?_
        case hy49 => (intro w' hw'; obtain ⟨c0, c6, c1⟩ := hw'; go_simp; try with_reducible rfl)
        simp only [List.getElem_toArray, List.getElem_cons_zero, List.getElem_cons_succ, Act.put, List.setIfInBounds_toArray, List.set_cons_zero, List.set_cons_succ]
        refine wpAnyH_take (i := 9) (v := ?v50) rfl (by kernel_rfl) (by kernel_rfl) (by kernel_rfl) (fun _ _ _ h => h) (Or.inl ⟨by rfl, ?hy50⟩) hS0 ?_
        case hy50 => (intro w' hw'; obtain ⟨c0, c6, c1⟩ := hw'; go_simp; try with_reducible rfl)
        simp only [List.getElem_toArray, List.getElem_cons_zero, List.getElem_cons_succ, Act.put, List.setIfInBounds_toArray, List.set_cons_zero, List.set_cons_succ]
        refine wpAnyH_take (i := 10) (v := ?v51) rfl (by kernel_rfl) (by kernel_rfl) (by kernel_rfl) (fun _ _ _ h => h) (Or.inl ⟨by rfl, ?hy51⟩) hS0 ?_
        case hy51 => (intro w' hw'; obtain ⟨c0, c6, c1⟩ := hw'; go_simp; try with_reducible rfl)
        simp only [List.getElem_toArray, List.getElem_cons_zero, List.getElem_cons_succ, Act.put, List.setIfInBounds_toArray, List.set_cons_zero, List.set_cons_succ]
        refine wpAnyH_take (i := 11) (v := ?v52) rfl (by kernel_rfl) (by kernel_rfl) (by kernel_rfl) (fun _ _ _ h => h) (Or.inl ⟨by rfl, ?hy52⟩) hS0 ?_
        case hy52 => (intro w' hw'; obtain ⟨c0, c6, c1⟩ := hw'; go_simp; try with_reducible rfl)
        simp only [List.getElem_toArray, List.getElem_cons_zero, List.getElem_cons_succ, Act.put, List.setIfInBounds_toArray, List.set_cons_zero, List.set_cons_succ]
        refine wpAnyH_take (i := 12) (v := ?v53) rfl (by kernel_rfl) (by kernel_rfl) (by kernel_rfl) (fun _ _ _ h => h) (Or.inl ⟨by rfl, ?hy53⟩) hS0 ?_
        case hy53 => (intro w' hw'; obtain ⟨c0, c6, c1⟩ := hw'; go_simp; try with_reducible rfl)
        simp only [List.getElem_toArray, List.getElem_cons_zero, List.getElem_cons_succ, Act.put, List.setIfInBounds_toArray, List.set_cons_zero, List.set_cons_succ]
        refine wpAnyH_take (i := 13) (v := ?v54) rfl (by kernel_rfl) (by kernel_rfl) (by kernel_rfl) (fun _ _ _ h => h) (Or.inl ⟨by rfl, ?hy54⟩) hS0 ?_
        case hy54 => (intro w' hw'; obtain ⟨c0, c6, c1⟩ := hw'; go_simp; try with_reducible rfl)
        simp only [List.getElem_toArray, List.getElem_cons_zero, List.getElem_cons_succ, Act.put, List.setIfInBounds_toArray, List.set_cons_zero, List.set_cons_succ]
        refine wpAnyH_take (i := 14) (v := ?v55) rfl (by kernel_rfl) (by kernel_rfl) (by kernel_rfl) (fun _ _ _ h => h) (Or.inl ⟨by rfl, ?hy55⟩) hS0 ?_
        case hy55 => (intro w' hw'; obtain ⟨c0, c6, c1⟩ := hw'; go_simp; try with_reducible rfl)
        simp only [List.getElem_toArray, List.getElem_cons_zero, List.getElem_cons_succ, Act.put, List.setIfInBounds_toArray, List.set_cons_zero, List.set_cons_succ]
        refine wpAnyH_take (i := 15) (v := ?v56) rfl (by kernel_rfl) (by kernel_rfl) (by kernel_rfl) (fun _ _ _ h => h) (Or.inl ⟨by rfl, ?hy56⟩) hS0 ?_
        case hy56 => (intro w' hw'; obtain ⟨c0, c6, c1⟩ := hw'; go_simp; try with_reducible rfl)
        simp only [List.getElem_toArray, List.getElem_cons_zero, List.getElem_cons_succ, Act.put, List.setIfInBounds_toArray, List.set_cons_zero, List.set_cons_succ]
        refine wpAnyH_take (i := 16) (v := ?v57) rfl (by kernel_rfl) (by kernel_rfl) (by kernel_rfl) (fun _ _ _ h => h) (Or.inl ⟨by rfl, ?hy57⟩) hS0 ?_
        case hy57 => (intro w' hw'; obtain ⟨c0, c6, c1⟩ := hw'; go_simp; try with_reducible rfl)
        simp only [List.getElem_toArray, List.getElem_cons_zero, List.getElem_cons_succ, Act.put, List.setIfInBounds_toArray, List.set_cons_zero, List.set_cons_succ]
        refine wpAnyH_take (i := 17) (v := ?v58) rfl (by kernel_rfl) (by kernel_rfl) (by kernel_rfl) (fun _ _ _ h => h) (Or.inl ⟨by rfl, ?hy58⟩) hS0 ?_
        case hy58 => (intro w' hw'; obtain ⟨c0, c6, c1⟩ := hw'; go_simp; try with_reducible rfl)
        simp only [List.getElem_toArray, List.getElem_cons_zero, List.getElem_cons_succ, Act.put, List.setIfInBounds_toArray, List.set_cons_zero, List.set_cons_succ]
        refine wpAnyH_take (i := 18) (v := ?v59) rfl (by kernel_rfl) (by kernel_rfl) (by kernel_rfl) (fun _ _ _ h => h) (Or.inl ⟨by rfl, ?hy59⟩) hS0 ?_
        case hy59 => (intro w' hw'; obtain ⟨c0, c6, c1⟩ := hw'; go_simp; try with_reducible rfl)
        simp only [List.getElem_toArray, List.getElem_cons_zero, List.getElem_cons_succ, Act.put, List.setIfInBounds_toArray, List.set_cons_zero, List.set_cons_succ]
        refine wpAnyH_take (i := 19) (v := ?v60) rfl (by kernel_rfl) (by kernel_rfl) (by kernel_rfl) (fun _ _ _ h => h) (Or.inl ⟨by rfl, ?hy60⟩) hS0 ?_
        case hy60 => (intro w' hw'; obtain ⟨c0, c6, c1⟩ := hw'; go_simp; try with_reducible rfl)
        simp only [List.getElem_toArray, List.getElem_cons_zero, List.getElem_cons_succ, Act.put, List.setIfInBounds_toArray, List.set_cons_zero, List.set_cons_succ]
        refine wpAnyH_done (by kernel_rfl) ?_ _; refine NoPanic.normal ?_
        have bW1 : Below w.heap.size w { W with drawn := W.drawn + 1 } := bW.drew
        generalize ({ W with drawn := W.drawn + 1 } : World) = W1 at *
        go_wp2
        go_ret
        exact ⟨bW1, .inr ⟨by omega, rfl⟩⟩
  · have hd5 : (kd != 5) = true := by simpa using h5
    go_enter Try.func60, Try.ntmps60
    go_wp2_with fail
    rw [← unhide EW]
    clear EW
    have hS0 : ({ W with drawn := W.drawn + 1 } : World).cell? ⟨b, o, none⟩ = some (.int .i64 kd) ∧ ({ W with drawn := W.drawn + 1 } : World).cell? ⟨b, o + 6, none⟩ = some (.slice ai n c) ∧ ({ W with drawn := W.drawn + 1 } : World).cell? ⟨w.heap.size, 1, none⟩ = some (.int .i64 ix) := ⟨y0, y6, s1⟩
    clear y0 y6 s1
    refine wp_region_noPanic ?_
    refine wp_region_held (S := fun w' => w'.cell? ⟨b, o, none⟩ = some (.int .i64 kd) ∧ w'.cell? ⟨b, o + 6, none⟩ = some (.slice ai n c) ∧ w'.cell? ⟨w.heap.size, 1, none⟩ = some (.int .i64 ix)) mixed ?_
    refine wpAnyH_take (i := 0) (v := ?v61) rfl (by kernel_rfl) (by kernel_rfl) (by kernel_rfl) (fun _ _ _ h => h) (Or.inl ⟨by rfl, ?hy61⟩) hS0 ?_
    case hy61 => (intro w' hw'; obtain ⟨c0, c6, c1⟩ := hw'; go_simp; try with_reducible rfl)
    simp only [List.getElem_toArray, List.getElem_cons_zero, List.getElem_cons_succ, Act.put, List.setIfInBounds_toArray, List.set_cons_zero, List.set_cons_succ]
    refine wpAnyH_take (i := 1) (v := ?v62) rfl (by kernel_rfl) (by kernel_rfl) (by kernel_rfl) (fun _ _ _ h => h) (Or.inl ⟨by rfl, ?hy62⟩) hS0 ?_
    case hy62 => (intro w' hw'; obtain ⟨c0, c6, c1⟩ := hw'; go_simp; try with_reducible rfl)
    simp only [List.getElem_toArray, List.getElem_cons_zero, List.getElem_cons_succ, Act.put, List.setIfInBounds_toArray, List.set_cons_zero, List.set_cons_succ]
    refine wpAnyH_take (i := 2) (v := ?v63) rfl (by kernel_rfl) (by kernel_rfl) (by kernel_rfl) (fun _ _ _ h => h) (Or.inl ⟨by rfl, ?hy63⟩) hS0 ?_
    case hy63 => (intro w' hw'; obtain ⟨c0, c6, c1⟩ := hw'; go_simp; try with_reducible rfl)
    simp only [List.getElem_toArray, List.getElem_cons_zero, List.getElem_cons_succ, Act.put, List.setIfInBounds_toArray, List.set_cons_zero, List.set_cons_succ]
    refine wpAnyH_take (i := 3) (v := ?v64) rfl (by kernel_rfl) (by kernel_rfl) (by kernel_rfl) (fun _ _ _ h => h) (Or.inl ⟨by rfl, ?hy64⟩) hS0 ?_
    case hy64 => (intro w' hw'; obtain ⟨c0, c6, c1⟩ := hw'; go_simp; try with_reducible rfl)
    simp only [List.getElem_toArray, List.getElem_cons_zero, List.getElem_cons_succ, Act.put, List.setIfInBounds_toArray, List.set_cons_zero, List.set_cons_succ]
    refine wpAnyH_take (i := 4) (v := ?v65) rfl (by kernel_rfl) (by kernel_rfl) (by kernel_rfl) (fun _ _ _ h => h) (Or.inl ⟨by rfl, ?hy65⟩) hS0 ?_
    case hy65 => (intro w' hw'; obtain ⟨c0, c6, c1⟩ := hw'; go_simp; try with_reducible rfl)
    simp only [List.getElem_toArray, List.getElem_cons_zero, List.getElem_cons_succ, Act.put, List.setIfInBounds_toArray, List.set_cons_zero, List.set_cons_succ]
    refine wpAnyH_take (i := 5) (v := ?v66) rfl (by kernel_rfl) (by kernel_rfl) (by kernel_rfl) (fun _ _ _ h => h) (Or.inl ⟨by rfl, ?hy66⟩) hS0 ?_
    case hy66 => (intro w' hw'; obtain ⟨c0, c6, c1⟩ := hw'; go_simp; try with_reducible rfl)
    simp only [List.getElem_toArray, List.getElem_cons_zero, List.getElem_cons_succ, Act.put, List.setIfInBounds_toArray, List.set_cons_zero, List.set_cons_succ]
    refine wpAnyH_take (i := 6) (v := undef) rfl (by kernel_rfl) (by kernel_rfl) (by kernel_rfl) (fun _ _ _ h => h) (Or.inr ⟨by rfl, rfl⟩) hS0 ?_
    simp only [List.getElem_toArray, List.getElem_cons_zero, List.getElem_cons_succ, Act.put, List.setIfInBounds_toArray, List.set_cons_zero, List.set_cons_succ]
    refine wpAnyH_take (i := 7) (v := undef) rfl (by kernel_rfl) (by kernel_rfl) (by kernel_rfl) (fun _ _ _ h => h) (Or.inr ⟨by rfl, rfl⟩) hS0 ?_
    simp only [List.getElem_toArray, List.getElem_cons_zero, List.getElem_cons_succ, Act.put, List.setIfInBounds_toArray, List.set_cons_zero, List.set_cons_succ]
    refine wpAnyH_take (i := 8) (v := undef) rfl (by kernel_rfl) (by kernel_rfl) (by kernel_rfl) (fun _ _ _ h => h) (Or.inr ⟨by rfl, rfl⟩) hS0 ?_
    simp only [List.getElem_toArray, List.getElem_cons_zero, List.getElem_cons_succ, Act.put, List.setIfInBounds_toArray, List.set_cons_zero, List.set_cons_succ]
    refine wpAnyH_take (i := 9) (v := ?v67) rfl (by kernel_rfl) (by kernel_rfl) (by kernel_rfl) (fun _ _ _ h => h) (Or.inl ⟨by rfl, ?hy67⟩) hS0 ?_
    case hy67 => (intro w' hw'; obtain ⟨c0, c6, c1⟩ := hw'; go_simp; try with_reducible rfl)
    simp only [List.getElem_toArray, List.getElem_cons_zero, List.getElem_cons_succ, Act.put, List.setIfInBounds_toArray, List.set_cons_zero, List.set_cons_succ]
    refine wpAnyH_take (i := 10) (v := ?v68) rfl (by kernel_rfl) (by kernel_rfl) (by kernel_rfl) (fun _ _ _ h => h) (Or.inl ⟨by rfl, ?hy68⟩) hS0 ?_
    case hy68 => (intro w' hw'; obtain ⟨c0, c6, c1⟩ := hw'; go_simp; try with_reducible rfl)
    simp only [List.getElem_toArray, List.getElem_cons_zero, List.getElem_cons_succ, Act.put, List.setIfInBounds_toArray, List.set_cons_zero, List.set_cons_succ]
    refine wpAnyH_take (i := 11) (v := undef) rfl (by kernel_rfl) (by kernel_rfl) (by kernel_rfl) (fun _ _ _ h => h) (Or.inr ⟨by rfl, rfl⟩) hS0 ?_
    simp only [List.getElem_toArray, List.getElem_cons_zero, List.getElem_cons_succ, Act.put, List.setIfInBounds_toArray, List.set_cons_zero, List.set_cons_succ]
    refine wpAnyH_take (i := 12) (v := undef) rfl (by kernel_rfl) (by kernel_rfl) (by kernel_rfl) (fun _ _ _ h => h) (Or.inr ⟨by rfl, rfl⟩) hS0 ?_
    simp only [List.getElem_toArray, List.getElem_cons_zero, List.getElem_cons_succ, Act.put, List.setIfInBounds_toArray, List.set_cons_zero, List.set_cons_succ]
    refine wpAnyH_take (i := 13) (v := undef) rfl (by kernel_rfl) (by kernel_rfl) (by kernel_rfl) (fun _ _ _ h => h) (Or.inr ⟨by rfl, rfl⟩) hS0 ?_
    simp only [List.getElem_toArray, List.getElem_cons_zero, List.getElem_cons_succ, Act.put, List.setIfInBounds_toArray, List.set_cons_zero, List.set_cons_succ]
    refine wpAnyH_take (i := 14) (v := undef) rfl (by kernel_rfl) (by kernel_rfl) (by kernel_rfl) (fun _ _ _ h => h) (Or.inr ⟨by rfl, rfl⟩) hS0 ?_
    simp only [List.getElem_toArray, List.getElem_cons_zero, List.getElem_cons_succ, Act.put, List.setIfInBounds_toArray, List.set_cons_zero, List.set_cons_succ]
    refine wpAnyH_take (i := 15) (v := undef) rfl (by kernel_rfl) (by kernel_rfl) (by kernel_rfl) (fun _ _ _ h => h) (Or.inr ⟨by rfl, rfl⟩) hS0 ?_
    simp only [List.getElem_toArray, List.getElem_cons_zero, List.getElem_cons_succ, Act.put, List.setIfInBounds_toArray, List.set_cons_zero, List.set_cons_succ]
    refine wpAnyH_take (i := 16) (v := undef) rfl (by kernel_rfl) (by kernel_rfl) (by kernel_rfl) (fun _ _ _ h => h) (Or.inr ⟨by rfl, rfl⟩) hS0 ?_
    simp only [List.getElem_toArray, List.getElem_cons_zero, List.getElem_cons_succ, Act.put, List.setIfInBounds_toArray, List.set_cons_zero, List.set_cons_succ]
    refine wpAnyH_take (i := 17) (v := undef) rfl (by kernel_rfl) (by kernel_rfl) (by kernel_rfl) (fun _ _ _ h => h) (Or.inr ⟨by rfl, rfl⟩) hS0 ?_
    simp only [List.getElem_toArray, List.getElem_cons_zero, List.getElem_cons_succ, Act.put, List.setIfInBounds_toArray, List.set_cons_zero, List.set_cons_succ]
    refine wpAnyH_take (i := 18) (v := undef) rfl (by kernel_rfl) (by kernel_rfl) (by kernel_rfl) (fun _ _ _ h => h) (Or.inr ⟨by rfl, rfl⟩) hS0 ?_
    simp only [List.getElem_toArray, List.getElem_cons_zero, List.getElem_cons_succ, Act.put, List.setIfInBounds_toArray, List.set_cons_zero, List.set_cons_succ]
    refine wpAnyH_take (i := 19) (v := ?v69) rfl (by kernel_rfl) (by kernel_rfl) (by kernel_rfl) (fun _ _ _ h => h) (Or.inl ⟨by rfl, ?hy69⟩) hS0 ?_
    case hy69 => (intro w' hw'; obtain ⟨c0, c6, c1⟩ := hw'; go_simp; try with_reducible rfl)
    simp only [List.getElem_toArray, List.getElem_cons_zero, List.getElem_cons_succ, Act.put, List.setIfInBounds_toArray, List.set_cons_zero, List.set_cons_succ]
    refine wpAnyH_done (by kernel_rfl) ?_ _; refine NoPanic.normal ?_
    have bW1 : Below w.heap.size w { W with drawn := W.drawn + 1 } := bW.drew
    generalize ({ W with drawn := W.drawn + 1 } : World) = W1 at *
    go_wp2
    go_ret
    exact ⟨bW1, .inr ⟨by omega, rfl⟩⟩
end Go.Proofs.Ytiblkdedbimggaa.vl
namespace Go.Proofs.Ytiblkdedbimggaa.vl
open Go.ChangeShapes Go.WideShapes Go.ChangeAt Go.RowKit
open stp (St Pth St3)
set_option linter.unusedVariables false
set_option linter.unusedSimpArgs false
theorem bytesExt {a b : ByteArray} (h : a.toList = b.toList) : a = b := by
  rw [Lib.toList_data, Lib.toList_data] at h
  obtain ⟨⟨x⟩⟩ := a
  obtain ⟨⟨y⟩⟩ := b
  simp at h
  rw [h]
theorem findIdx_some {α : Type} {f : α → Bool} : ∀ {l : List α} {k : Nat} {x : α}, l[k]? = some x → f x = true → (∀ i y, i < k → l[i]? = some y → f y = false) → l.findIdx? f = some k
  | [], k, x, h, _, _ => by simp at h
  | y :: r, 0, x, h, hx, _ => by simp at h; subst h; simp [List.findIdx?_cons, hx]
  | y :: r, k + 1, x, h, hx, hn => by
    have h0 := hn 0 y (by omega) rfl
    have := findIdx_some (f := f) (l := r) (by simpa using h) hx (fun i z hi hz => hn (i + 1) z (by omega) (by simpa using hz))
    simp [List.findIdx?_cons, h0, this]
theorem findIdx_none {α : Type} {f : α → Bool} : ∀ {l : List α}, (∀ (i : Nat) (y : α), l[i]? = some y → f y = false) → l.findIdx? f = none
  | [], _ => rfl
  | y :: r, hn => by
    have h0 : f y = false := hn 0 y rfl
    have := findIdx_none (f := f) (l := r) (fun i z hz => hn (i + 1) z (by simpa using hz))
    simp [List.findIdx?_cons, h0, this]
set_option maxHeartbeats 6000000 in
set_option maxRecDepth 6000 in
theorem child_name (b o : Nat) (kd : Int) (af : Option Addr) (n c : Nat) (fls : Fls) (nm : ByteArray) (ix : Int) (w : World) (hb : b < w.heap.size) (x0 : w.cell? ⟨b, o, none⟩ = some (.int .i64 kd)) (x7 : w.cell? ⟨b, o + 7, none⟩ = some (.slice af n c)) (hF : FlsAt w fls af n) (hn : n ≤ 9223372036854775807) :
    Calls Try.prog 60 #[.pointer (some ⟨b, o, none⟩), .agg #[.string nm, .int .i64 ix, .bool false]] w fun e w' => Below w.heap.size w w' ∧ ((kd = 6 ∧ ∃ j p off, af = some ⟨p, off, none⟩ ∧ fls.list.findIdx? (fun q => decide (q.1 = nm)) = some j ∧ e = .returned (.pointer (some ⟨p, off + j * 9 + 1, none⟩))) ∨ ((kd ≠ 6 ∨ fls.list.findIdx? (fun q => decide (q.1 = nm)) = none) ∧ e = .returned (.pointer none))) := by
  obtain ⟨W, eW⟩ : ∃ W, W = w.alloc (.cells #[.string nm, .int .i64 ix, .bool false] 39) := ⟨_, rfl⟩
  have y0 : W.cell? ⟨b, o, none⟩ = some (.int .i64 kd) := by rw [eW]; exact (World.cell?_alloc_past _ _ _ hb).trans x0
  have y7 : W.cell? ⟨b, o + 7, none⟩ = some (.slice af n c) := by rw [eW]; exact (World.cell?_alloc_past _ _ _ hb).trans x7
  have s0 : W.cell? ⟨w.heap.size, 0, none⟩ = some (.string nm) := by rw [eW]; simp
  have bW : Below w.heap.size w W := by rw [eW]; exact (Below.refl _ _).alloc (Nat.le_refl _) _
  have EW := hide eW
  clear eW
  by_cases h6 : kd = 6
  · subst h6
    go_enter Try.func60, Try.ntmps60
    go_wp2_with fail
    rw [← unhide EW]
    have hsz : w.heap.size < W.heap.size := by rw [unhide EW]; simp
    clear EW x0 x7
    go_loopw [45] (fun vi wr => ∃ k : Nat, k ≤ n ∧ vi = .int .i64 k ∧ (∀ i q, i < k → fls.list[i]? = some q → q.1 ≠ nm) ∧ Below W.heap.size W wr) (fun vi _ => n - (intOf vi).toNat)
    case atStart => exact ⟨0, Nat.zero_le _, rfl, fun i q hi => absurd hi (Nat.not_lt_zero _), Below.refl _ _⟩
    case round =>
      obtain ⟨k, hk, rfl, hno, hB⟩ := hrel
      by_cases hlt : k < n
      · have ki : (k : Int) < (n : Int) := by omega
        obtain ⟨p, off, nk, v, cs, rfl, hg, hn0, -, -, -⟩ := FlsAt.get fls _ n hF k hlt
        have z7 := keepC hB (Nat.lt_trans hb hsz) y7
        have z0 := keepC hB hsz s0
        have zn := keepC hB (Nat.lt_of_lt_of_le (World.block_lt_of_cell? w _ hn0) bW.size) (keepC bW (World.block_lt_of_cell? w _ hn0) hn0)
        have HB := hide hB
        have Hg := hide hg
        clear y0 y7 s0 hn0 hB hg
        go_wp2_with fail
        have hS0 : ({ wr with drawn := wr.drawn + 1 } : World).cell? ⟨b, o + 7, none⟩ = some (.slice (some ⟨p, off, none⟩) n c) ∧ ({ wr with drawn := wr.drawn + 1 } : World).cell? ⟨w.heap.size, 0, none⟩ = some (.string nm) ∧ ({ wr with drawn := wr.drawn + 1 } : World).cell? ⟨p, off + k * 9, none⟩ = some (.string nk) := ⟨z7, z0, zn⟩
        clear z7 z0 zn
        refine wp_region_noPanic ?_
        refine wp_region_held (S := fun w' => w'.cell? ⟨b, o + 7, none⟩ = some (.slice (some ⟨p, off, none⟩) n c) ∧ w'.cell? ⟨w.heap.size, 0, none⟩ = some (.string nm) ∧ w'.cell? ⟨p, off + k * 9, none⟩ = some (.string nk)) mixed ?_
        refine wpAnyH_take (i := 0) (v := ?v1) rfl (by kernel_rfl) (by kernel_rfl) (by kernel_rfl) (fun _ _ _ h => h) (Or.inl ⟨by rfl, ?hy1⟩) hS0 ?_
        case hy1 => (intro w' hw'; obtain ⟨c7, c0, cn⟩ := hw'; go_simp; try with_reducible rfl)
        simp only [List.getElem_toArray, List.getElem_cons_zero, List.getElem_cons_succ, Act.put, List.setIfInBounds_toArray, List.set_cons_zero, List.set_cons_succ]
        refine wpAnyH_take (i := 1) (v := ?v2) rfl (by kernel_rfl) (by kernel_rfl) (by kernel_rfl) (fun _ _ _ h => h) (Or.inl ⟨by rfl, ?hy2⟩) hS0 ?_
        case hy2 => (intro w' hw'; obtain ⟨c7, c0, cn⟩ := hw'; go_simp; try with_reducible rfl)
        simp only [List.getElem_toArray, List.getElem_cons_zero, List.getElem_cons_succ, Act.put, List.setIfInBounds_toArray, List.set_cons_zero, List.set_cons_succ]
        refine wpAnyH_take (i := 2) (v := ?v3) rfl (by kernel_rfl) (by kernel_rfl) (by kernel_rfl) (fun _ _ _ h => h) (Or.inl ⟨by rfl, ?hy3⟩) hS0 ?_
        case hy3 => (intro w' hw'; obtain ⟨c7, c0, cn⟩ := hw'; go_simp; try with_reducible rfl)
        simp only [List.getElem_toArray, List.getElem_cons_zero, List.getElem_cons_succ, Act.put, List.setIfInBounds_toArray, List.set_cons_zero, List.set_cons_succ]
        refine wpAnyH_take (i := 3) (v := ?v4) rfl (by kernel_rfl) (by kernel_rfl) (by kernel_rfl) (fun _ _ _ h => h) (Or.inl ⟨by rfl, ?hy4⟩) hS0 ?_
        case hy4 => (intro w' hw'; obtain ⟨c7, c0, cn⟩ := hw'; go_simp; try with_reducible rfl)
        simp only [List.getElem_toArray, List.getElem_cons_zero, List.getElem_cons_succ, Act.put, List.setIfInBounds_toArray, List.set_cons_zero, List.set_cons_succ]
        refine wpAnyH_take (i := 4) (v := ?v5) rfl (by kernel_rfl) (by kernel_rfl) (by kernel_rfl) (fun _ _ _ h => h) (Or.inl ⟨by rfl, ?hy5⟩) hS0 ?_
        case hy5 => (intro w' hw'; obtain ⟨c7, c0, cn⟩ := hw'; go_simp; try with_reducible rfl)
        simp only [List.getElem_toArray, List.getElem_cons_zero, List.getElem_cons_succ, Act.put, List.setIfInBounds_toArray, List.set_cons_zero, List.set_cons_succ]
        refine wpAnyH_take (i := 5) (v := ?v6) rfl (by kernel_rfl) (by kernel_rfl) (by kernel_rfl) (fun _ _ _ h => h) (Or.inl ⟨by rfl, ?hy6⟩) hS0 ?_
        case hy6 => (intro w' hw'; obtain ⟨c7, c0, cn⟩ := hw'; go_simp; try with_reducible rfl)
        simp only [List.getElem_toArray, List.getElem_cons_zero, List.getElem_cons_succ, Act.put, List.setIfInBounds_toArray, List.set_cons_zero, List.set_cons_succ]
        refine wpAnyH_take (i := 6) (v := ?v7) rfl (by kernel_rfl) (by kernel_rfl) (by kernel_rfl) (fun _ _ _ h => h) (Or.inl ⟨by rfl, ?hy7⟩) hS0 ?_
        case hy7 => (intro w' hw'; obtain ⟨c7, c0, cn⟩ := hw'; go_simp; try with_reducible rfl)
        simp only [List.getElem_toArray, List.getElem_cons_zero, List.getElem_cons_succ, Act.put, List.setIfInBounds_toArray, List.set_cons_zero, List.set_cons_succ]
        refine wpAnyH_take (i := 7) (v := ?v8) rfl (by kernel_rfl) (by kernel_rfl) (by kernel_rfl) (fun _ _ _ h => h) (Or.inl ⟨by rfl, ?hy8⟩) hS0 ?_
        case hy8 => (intro w' hw'; obtain ⟨c7, c0, cn⟩ := hw'; go_simp; try with_reducible rfl)
        simp only [List.getElem_toArray, List.getElem_cons_zero, List.getElem_cons_succ, Act.put, List.setIfInBounds_toArray, List.set_cons_zero, List.set_cons_succ]
        refine wpAnyH_take (i := 8) (v := ?v9) rfl (by kernel_rfl) (by kernel_rfl) (by kernel_rfl) (fun _ _ _ h => h) (Or.inl ⟨by rfl, ?hy9⟩) hS0 ?_
        case hy9 => (intro w' hw'; obtain ⟨c7, c0, cn⟩ := hw'; go_simp; try with_reducible rfl)
        simp only [List.getElem_toArray, List.getElem_cons_zero, List.getElem_cons_succ, Act.put, List.setIfInBounds_toArray, List.set_cons_zero, List.set_cons_succ]
        refine wpAnyH_take (i := 9) (v := ?v10) rfl (by kernel_rfl) (by kernel_rfl) (by kernel_rfl) (fun _ _ _ h => h) (Or.inl ⟨by rfl, ?hy10⟩) hS0 ?_
        case hy10 => (intro w' hw'; obtain ⟨c7, c0, cn⟩ := hw'; go_simp; try with_reducible rfl)
        simp only [List.getElem_toArray, List.getElem_cons_zero, List.getElem_cons_succ, Act.put, List.setIfInBounds_toArray, List.set_cons_zero, List.set_cons_succ]
        by_cases heq : nk = nm
        · subst heq
          refine wpAnyH_take (i := 10) (v := ?v11) rfl (by kernel_rfl) (by kernel_rfl) (by kernel_rfl) (fun _ _ _ h => h) (Or.inl ⟨by rfl, ?hy11⟩) hS0 ?_
          case hy11 => (intro w' hw'; obtain ⟨c7, c0, cn⟩ := hw'; go_simp; try with_reducible rfl)
          simp only [List.getElem_toArray, List.getElem_cons_zero, List.getElem_cons_succ, Act.put, List.setIfInBounds_toArray, List.set_cons_zero, List.set_cons_succ]
          refine wpAnyH_done (by kernel_rfl) ?_ _; refine NoPanic.normal ?_
          have hB1 : Below W.heap.size W { wr with drawn := wr.drawn + 1 } := (unhide HB).drew
          generalize ({ wr with drawn := wr.drawn + 1 } : World) = W1 at *
          obtain ⟨z7, z0, zn⟩ := hS0
          go_wp2
          go_ret
          refine ⟨bW.trans (hB1.mono bW.size), .inl ⟨(by first | rfl | trivial), k, p, off, rfl, ?_, rfl⟩⟩
          exact findIdx_some (unhide Hg) (by simp) (fun i q hi hq => by simpa using hno i q hi hq)
        · have hbq : (nk.toList == nm.toList) = false := by simpa using fun e => heq (bytesExt e)
          refine wpAnyH_take (i := 10) (v := ?v12) rfl (by kernel_rfl) (by kernel_rfl) (by kernel_rfl) (fun _ _ _ h => h) (Or.inl ⟨by rfl, ?hy12⟩) hS0 ?_
          case hy12 => (intro w' hw'; obtain ⟨c7, c0, cn⟩ := hw'; go_simp; try with_reducible rfl)
          simp only [List.getElem_toArray, List.getElem_cons_zero, List.getElem_cons_succ, Act.put, List.setIfInBounds_toArray, List.set_cons_zero, List.set_cons_succ]
          refine wpAnyH_done (by kernel_rfl) ?_ _; refine NoPanic.normal ?_
          have hB1 : Below W.heap.size W { wr with drawn := wr.drawn + 1 } := (unhide HB).drew
          generalize ({ wr with drawn := wr.drawn + 1 } : World) = W1 at *
          obtain ⟨z7, z0, zn⟩ := hS0
          go_wp2
          refine ⟨⟨k + 1, by omega, by go_num, fun i q hi hq => ?_, hB1⟩, by simp only [intOf]; omega⟩
          by_cases hik : i = k
          · subst hik
            have := Option.some.inj (hq.symm.trans (unhide Hg))
            rw [this]
            exact heq
          · exact hno i q (by omega) hq
      · obtain rfl : k = n := by omega
        go_wp2
        go_ret
        refine ⟨bW.trans (hB.mono bW.size), .inr ⟨.inr ?_, rfl⟩⟩
        exact findIdx_none (fun i q hq => by
          have hi : i < k := by rw [← FlsAt.len fls _ _ hF]; exact (List.getElem?_eq_some_iff.1 hq).1
          simpa using hno i q hi hq)
  · have hd6 : (kd != 6) = true := by simpa using h6
    go_enter Try.func60, Try.ntmps60
    go_wp2
    go_ret
    exact ⟨(Below.refl _ _).alloc (Nat.le_refl _) _, .inr ⟨.inl h6, rfl⟩⟩
end Go.Proofs.Ytiblkdedbimggaa.vl
namespace Go.Proofs.Ytiblkdedbimggaa.vl
open Go.ChangeShapes Go.WideShapes Go.ChangeAt Go.RowKit
open stp (St Pth St3)
set_option linter.unusedVariables false
set_option linter.unusedSimpArgs false
/-- where the child number i of a value with these cells lies -/
def Loc (cs : List Value) (s : St) (i b o : Nat) : Prop :=
  ∃ p off n c, if s.it = true then cs[6]? = some (.slice (some ⟨p, off, none⟩) n c) ∧ b = p ∧ o = off + i * 8 else cs[7]? = some (.slice (some ⟨p, off, none⟩) n c) ∧ b = p ∧ o = off + i * 9 + 1
def getS : Vl → St → Option Vl
  | .mk kd b n f tx ty its fls, s => match chI (.mk kd b n f tx ty its fls) s with
    | none => none
    | some i => if s.it = true then its.list[i]? else (fls.list[i]?).map (·.2)
def getP : Vl → List St → Option Vl
  | v, [] => some v
  | v, s :: r => (getS v s).bind fun u => getP u r
theorem chI_mk (kd : Int) (b : Bool) (n : Int) (f : Nat) (tx ty : ByteArray) (its : Vls) (fls : Fls) (s : St) : chI (.mk kd b n f tx ty its fls) s = if s.it = true then (if kd = 5 ∧ 0 ≤ s.ix ∧ s.ix < its.list.length then some s.ix.toNat else none) else (if kd = 6 then fls.list.findIdx? (fun q => decide (q.1 = s.nm)) else none) := rfl
theorem findIdx_get {α : Type} {f : α → Bool} {l : List α} {i : Nat} (h : l.findIdx? f = some i) : ∃ x, l[i]? = some x ∧ f x = true := by
  rw [List.findIdx?_eq_some_iff_getElem] at h
  obtain ⟨hi, hx, _⟩ := h
  exact ⟨l[i], by simp [hi], hx⟩
/-- the child of a value that is read -/
theorem VlC.child {w : World} {v : Vl} {cs : List Value} {s : St} {i b o : Nat} (h : VlC w v cs) (hi : chI v s = some i) (hl : Loc cs s i b o) : ∃ u us, getS v s = some u ∧ Row8 w b o us ∧ VlC w u us := by
  obtain ⟨kd, bb, ni, f, tx, ty, its, fls⟩ := v
  have hg : getS (.mk kd bb ni f tx ty its fls) s = if s.it = true then its.list[i]? else (fls.list[i]?).map (·.2) := by simp only [getS, hi]
  rw [chI_mk] at hi
  unfold VlC at h
  obtain ⟨ai, nI, ci, af, nf, cf, rfl, hI, hF, -⟩ := h
  obtain ⟨p, off, n, c, hl⟩ := hl
  by_cases ht : s.it = true
  · rw [if_pos ht] at hi hl hg
    obtain ⟨h6, rfl, rfl⟩ := hl
    simp at h6
    obtain ⟨rfl, rfl, rfl⟩ := h6
    by_cases hc : kd = 5 ∧ 0 ≤ s.ix ∧ s.ix < its.list.length
    · rw [if_pos hc] at hi
      obtain rfl := Option.some.inj hi
      have hlen := VlsAt.len its _ _ hI
      obtain ⟨b', off', u, us, e, hu, hr, hv⟩ := VlsAt.get its _ _ hI s.ix.toNat (by omega)
      simp only [Option.some.injEq, Addr.mk.injEq, and_true] at e
      obtain ⟨rfl, rfl⟩ := e
      exact ⟨u, us, hg.trans hu, hr, hv⟩
    · rw [if_neg hc] at hi
      cases hi
  · rw [if_neg ht] at hi hl hg
    obtain ⟨h7, rfl, rfl⟩ := hl
    simp at h7
    obtain ⟨rfl, rfl, rfl⟩ := h7
    by_cases hc : kd = 6
    · rw [if_pos hc] at hi
      have hlen := FlsAt.len fls _ _ hF
      obtain ⟨q, hq, _⟩ := findIdx_get hi
      obtain ⟨b', off', nm, u, us, e, hu, _, _, hr, hv⟩ := FlsAt.get fls _ _ hF i (by rw [← hlen]; exact (List.getElem?_eq_some_iff.1 hq).1)
      simp only [Option.some.injEq, Addr.mk.injEq, and_true] at e
      obtain ⟨rfl, rfl⟩ := e
      exact ⟨u, us, hg.trans (by rw [hu]; rfl), hr, hv⟩
    · rw [if_neg hc] at hi
      cases hi
theorem addr_of_vls {w : World} {l : Vls} {a : Option Addr} {n : Nat} (h : VlsAt w l a n) : n = 0 ∨ ∃ p off, a = some ⟨p, off, none⟩ := by
  cases l with
  | nil => unfold VlsAt at h; exact .inl h
  | cons v r => unfold VlsAt at h; obtain ⟨b, off, m, cs, h1, _⟩ := h; exact .inr ⟨b, off, h1⟩
/-- tree.child -/
theorem child_ok (v : Vl) (cs : List Value) (b o : Nat) (s : St) (w : World) (hr : Row8 w b o cs) (hv : VlC w v cs) :
    Calls Try.prog 60 #[.pointer (some ⟨b, o, none⟩), s.val] w fun e w' => Below w.heap.size w w' ∧ ((chI v s = none ∧ e = .returned (.pointer none)) ∨ ∃ i b' o', chI v s = some i ∧ Loc cs s i b' o' ∧ e = .returned (.pointer (some ⟨b', o', none⟩))) := by
  obtain ⟨kd, bb, ni, f, tx, ty, its, fls⟩ := v
  unfold VlC at hv
  obtain ⟨ai, nI, ci, af, nf, cf, rfl, hI, hF, hni, hnf, hai, haf, hk1, hk2, hk3, hk4, hci, hcf⟩ := hv
  have x0 := hr 0 _ rfl
  have x6 := hr 6 _ rfl
  have x7 := hr 7 _ rfl
  have hb := World.block_lt_of_cell? w _ x0
  have hlI := VlsAt.len its _ _ hI
  unfold maxLen at hci hcf
  obtain ⟨nm, ix, it⟩ := s
  unfold St.val
  cases it with
  | true =>
    refine (child_item b o kd ai nI ci nm ix w hb x0 x6 (by omega) (addr_of_vls hI)).mono ?_
    rintro e w' ⟨hB, ⟨rfl, h0, h1, p, off, rfl, rfl⟩ | ⟨hn, rfl⟩⟩
    · refine ⟨hB, .inr ⟨ix.toNat, p, off + ix.toNat * 8, ?_, ⟨p, off, nI, ci, by simp⟩, rfl⟩⟩
      rw [chI_mk]
      rw [if_pos rfl, if_pos ⟨rfl, h0, by rw [hlI]; exact h1⟩]
    · refine ⟨hB, .inl ⟨?_, rfl⟩⟩
      rw [chI_mk]
      rw [if_pos rfl, if_neg (by rw [hlI]; exact hn)]
  | false =>
    refine (child_name b o kd af nf cf fls nm ix w hb x0 x7 hF (by omega)).mono ?_
    rintro e w' ⟨hB, ⟨rfl, j, p, off, rfl, hj, rfl⟩ | ⟨hn, rfl⟩⟩
    · refine ⟨hB, .inr ⟨j, p, off + j * 9 + 1, ?_, ⟨p, off, nf, cf, by simp⟩, rfl⟩⟩
      rw [chI_mk]
      rw [if_neg (by simp), if_pos rfl]
      exact hj
    · refine ⟨hB, .inl ⟨?_, rfl⟩⟩
      rw [chI_mk]
      rw [if_neg (by simp)]
      rcases hn with hn | hn
      · rw [if_neg hn]
      · by_cases hk : kd = 6
        · rw [if_pos hk]; exact hn
        · rw [if_neg hk]
end Go.Proofs.Ytiblkdedbimggaa.vl
