import Derived.Test.YtmccppkbabjblaaGreatSfi15c
import Derived.Lib.SlBytesConst
set_option linter.unusedVariables false
set_option linter.unusedSimpArgs false
namespace Go.Proofs.YtmccppkbabjblaaGreat.mem
open Go.ChangeShapes Go.WideShapes Go.ChangeAt Go.RowKit
open ints (hide unhide)
end Go.Proofs.YtmccppkbabjblaaGreat.mem
namespace Go.Proofs.YtmccppkbabjblaaGreat.cu
open Go.ChangeShapes Go.WideShapes Go.ChangeAt Go.RowKit
open ints (hide unhide)
open mem (Row)
open lx (toks chs cln)
structure Bsl (w : World) (base g n cap : Nat) (zs : List Int) : Prop where
 len : zs.length = n
 nc : n ≤ cap
 cm : cap ≤ maxLen
 bs : base ≤ g
 lt : g < w.heap.size
 there : w.there g 0 cap
 cells : ∀ i, i < n → w.cell? ⟨g, i, none⟩ = some (.int .u8 (zs.getD i 0))
theorem Bsl.row {w : World} {base g n cap : Nat} {zs : List Int} (h : Bsl w base g n cap zs) : Row .u8 w (some ⟨g, 0, none⟩) n cap zs :=
 ⟨h.len, h.nc, (fun e => by cases e), .inr ⟨g, 0, rfl, h.lt, fun i hi => by rw [Nat.zero_add]; exact h.cells i hi⟩⟩
theorem frozen_blk {w w' : World} {b : Nat} (h : w'.heap[b]? = w.heap[b]?) (j : Nat) : w'.frozen? ⟨b, j, none⟩ = w.frozen? ⟨b, j, none⟩ := by unfold World.frozen?; rw [h]
theorem Bsl.below {w w' : World} {base g n cap : Nat} {zs : List Int} (h : Bsl w base g n cap zs) (hb : Below w.heap.size w w') : Bsl w' base g n cap zs := by
 have hk := hb.block g h.lt
 exact ⟨h.len, h.nc, h.cm, h.bs, Nat.lt_of_lt_of_le h.lt hb.size, fun j hj => ⟨by rw [dt.cell_blk hk]; exact (h.there j hj).1, by rw [frozen_blk hk]; exact (h.there j hj).2⟩, fun i hi => (dt.cell_blk hk i).trans (h.cells i hi)⟩
theorem Bsl.base {w : World} {base base' g n cap : Nat} {zs : List Int} (h : Bsl w base g n cap zs) (hb : base' ≤ base) : Bsl w base' g n cap zs := ⟨h.len, h.nc, h.cm, Nat.le_trans hb h.bs, h.lt, h.there, h.cells⟩
theorem Bsl.own {w : World} {base : Nat} {e : TypeId} {g n cap : Nat} {zs : List Int} (h : w.ownsRow base e 1 (.slice (some ⟨g, 0, none⟩) n cap) n (zs.map (Value.int .u8))) : Bsl w base g n cap zs := by
 rcases h.2 with ⟨h0, _⟩ | ⟨g', cap', cur, hv, hb, hg, hnc, hcm, hcs, ht⟩
 ·cases h0
 ·injection hv with e1 e2 e3
  injection e1 with e1
  injection e1 with e1
  subst e1 e3
  have hl : zs.length = n := by have := h.1; simpa using this
  refine ⟨hl, hnc, hcm, hb, (Array.getElem?_eq_some_iff.1 hg).1, dt.there_cells hg (by omega), fun i hi => ?_⟩
  rw [dt.cell_cells hg i]
  have : cur.toList[i]? = some (.int .u8 (zs.getD i 0)) := by
   have h2 : (cur.toList.take (n * 1))[i]? = (zs.map (Value.int .u8))[i]? := by rw [ht]
   rw [List.getElem?_take, if_pos (by omega)] at h2
   rw [h2]
   simp [List.getD, hl, hi]
  simpa using this
theorem cell_set {w : World} {b : Nat} (vs : List Value) (o i : Nat) (hs : ∀ j, j < vs.length → (w.cell? ⟨b, o + j, none⟩).isSome = true) : (w.setCells b o vs).cell? ⟨b, i, none⟩ = if o ≤ i ∧ i < o + vs.length then vs[i - o]? else w.cell? ⟨b, i, none⟩ := by
 split
 ·rename_i h
  have hj : i - o < vs.length := by omega
  have := World.cell?_setCells_in b vs o w hs (i - o) hj
  rw [show o + (i - o) = i by omega] at this
  rw [this, List.getElem?_eq_getElem hj]
 ·rename_i h
  exact World.cell?_setCells_out b vs o w ⟨b, i, none⟩ (fun _ _ => by show i < o ∨ o + vs.length ≤ i; omega)
theorem append_run {P : Program} {t e : TypeId} {i0 : TypeInfo} {z : Value} (ty : TypeId) (ht : P.underlying t = some (.slice e)) (hi : P.info? e = some i0) (hz : i0.zero = some z) (hsize : i0.size = 1) (hby : i0.bytes = 1) (hzs : z.cells.size = 1)
  {w : World} {base g n cap : Nat} {zs : List Int} (h : Bsl w base g n cap zs) {a : Option Addr} {m c : Nat} {ns : List Int} (hr : Row .u8 w a m c ns) (hn : n + m ≤ 4294967296) (hb : base ≤ w.heap.size) :
  ∃ g' cap' w', (Builtin.append_ #[t, t] ty #[.slice (some ⟨g, 0, none⟩) n cap, .slice a m c]).run P w = .ok (.slice (some ⟨g', 0, none⟩) (n + m) cap') w' ∧ Bsl w' base g' (n + m) cap' (zs ++ ns) ∧ Below base w w' := by
 have hnc := h.nc
 cases a with
 | none =>
  have hc := hr.nil rfl
  have hm : m = 0 := by have := hr.le; omega
  have hns : ns = [] := List.eq_nil_of_length_eq_zero (by rw [hr.len]; exact hm)
  subst hm hns
  refine ⟨g, cap, w, ?_, by simpa using h, Below.refl _ _⟩
  simp [Builtin.append_, run_underlying ht, sizeOf, typeInfo, hi, Builtin.lenOf, hnc, Builtin.firstCells, storeCells]
 | some ad =>
  have hl : (ns.map (Value.int .u8)).length = m * i0.size := by rw [hsize]; simp [hr.len]
  have hnews := hr.cells ad rfl
  have h1 : ∀ u ∈ ns.map (Value.int .u8), u.oneCell' = true := fun u hu => by
   obtain ⟨x, _, rfl⟩ := List.mem_map.1 hu
   rfl
  by_cases hroom : n + m ≤ cap
  ·have hf := run_firstCells_some (P := P) w i0.size m ad m c _ hl hnews
   have hst := run_storeCells_cells (P := P) g n (ns.map (Value.int .u8)) 0 w (fun j hj => by have := (h.there (n + j) (by simp [hr.len] at hj; omega)).1; simpa using this) (fun j hj => by have := (h.there (n + j) (by simp [hr.len] at hj; omega)).2; simpa using this) h1
   simp only [Nat.add_zero] at hst
   refine ⟨g, cap, w.setCells g n (ns.map (Value.int .u8)), ?_, ?_, ?_⟩
   ·rw [hsize] at hf
    simp [Builtin.append_, run_underlying ht, sizeOf, typeInfo, hi, Builtin.lenOf, hroom, hsize, hf, Addr.add_mid, hst]
   ·have hcs := fun i => cell_set (w := w) (b := g) (ns.map (Value.int .u8)) n i (fun j hj => by have := (h.there (n + j) (by simp [hr.len] at hj; omega)).1; simpa using this)
    have hlm : (ns.map (Value.int .u8)).length = m := by simp [hr.len]
    refine ⟨by simp [h.len, hr.len], hroom, h.cm, h.bs, by rw [dt.size_setCells]; exact h.lt, fun j hj => ⟨?_, ?_⟩, fun i hi => ?_⟩
    ·rw [Nat.zero_add, hcs j]
     split
     ·rename_i hq
      rw [hlm] at hq
      rw [List.getElem?_eq_getElem (by omega)]
      rfl
     ·have := (h.there j hj).1; simpa using this
    ·have := (h.there j hj).2
     rw [World.frozen?_setCells]
     exact this
    ·rw [hcs i, hlm]
     by_cases hq : n ≤ i ∧ i < n + m
     ·rw [if_pos hq, List.getElem?_map, List.getElem?_eq_getElem (by rw [hr.len]; omega)]
      simp [List.getD, List.getElem?_append_right (show zs.length ≤ i by rw [h.len]; omega), h.len, hr.len, show i - n < m by omega]
     ·rw [if_neg hq, h.cells i (by omega)]
      simp [List.getD, List.getElem?_append_left (show i < zs.length by rw [h.len]; omega)]
   ·exact dt.below_setCells g _ n w (Below.refl _ _) h.bs
  ·have holds : ∀ j u, (zs.map (Value.int .u8))[j]? = some u → w.cell? ((⟨g, 0, none⟩ : Addr).add j) = some u := fun j u hu => h.row.cells ⟨g, 0, none⟩ rfl j u hu
   have hr2 := run_append_grow (P := P) w t ty e i0 z ht hi hz ⟨g, 0, none⟩ n cap (zs.map (Value.int .u8)) (by rw [hsize]; simp [h.len]) holds ad m c _ hl hnews (by omega) (by omega) (growslice_fits (by omega) (by rw [hby]; omega))
   have hge := grownCap_ge w (n + m) cap e
   have hcm : grownCap w (n + m) cap e ≤ maxLen := grownCap_le_maxLen w (n + m) cap e (by unfold maxLen; omega)
   refine ⟨_, _, _, hr2, ?_, (Below.refl _ _).drew.alloc hb _⟩
   have hnew := heap_alloc_new w.drew (.cells ((zs.map (Value.int .u8)).toArray ++ (ns.map (Value.int .u8)).toArray ++ Builtin.zeroCells z.cells (grownCap w (n + m) cap e - (n + m))) e)
   refine ⟨by simp [h.len, hr.len], hge, hcm, hb, by simp, dt.there_cells hnew (by simp [size_zeroCells, hzs, h.len, hr.len]; omega), fun i hi => ?_⟩
   refine (dt.cell_cells hnew i).trans ?_
   have e1 : ((zs.map (Value.int .u8)).toArray ++ (ns.map (Value.int .u8)).toArray).size = n + m := by simp [h.len, hr.len]
   rw [Array.getElem?_append_left (by rw [e1]; exact hi)]
   have e2 : ((zs.map (Value.int .u8)).toArray ++ (ns.map (Value.int .u8)).toArray)[i]? = ((zs ++ ns).map (Value.int .u8))[i]? := by simp
   have hlt : i < (zs ++ ns).length := by simp [h.len, hr.len]; exact hi
   rw [e2, List.getElem?_map, List.getD_eq_getElem?_getD, List.getElem?_eq_getElem hlt]
   rfl
open dt (Dt Kp RowAt Ow Grow OwIn)
open mem (Row belowNone)
set_option maxRecDepth 4000 in
theorem copied10_ok (a : Option Addr) (n c : Nat) (zs : List Int) (w : World) (h : Row .u8 w a n c zs) (hn : n ≤ 281474976710656) :
  Calls Tryz.prog 10 #[.slice a n c] w fun e w' => e = .returned (.slice (some ⟨w.heap.size, 0, none⟩) n n) ∧ Bsl w' w.heap.size w.heap.size n n zs ∧ Below w.heap.size w w' := by
 obtain ⟨i0, hi, hz0, hz1, hz2⟩ := info_parts mem.info8
 go_enter Tryz.func10, Tryz.ntmps10
 have hl : (zs.map (Value.int .u8)).length = n * 1 := by simp [h.len]
 have h00 := h.nil
 have hle := h.le
 go_wp2_with (first
  | (refine wpList_make_own _ rfl _ _ 22 rfl w.heap.size 5 i0 (.int .u8 0) 1 Tryz.underlying22 hi hz0 hz1 .i64 .i64 _ n rfl rfl rfl (by rw [hz2]; omega) (by unfold maxLen; omega) (Nat.le_refl _) ?_; intro w1 hown hgrow)
  | (at_builtin; refine wpList_append_fits_any _ rfl (.tmp 7) (.tmp 8) 22 rfl w.heap.size 5 i0 1 Tryz.underlying22 hi hz1 w.heap.size 0 n [] rfl hown a n c (zs.map (Value.int .u8)) rfl hl (fun e => ⟨by have := h00 e; omega, h00 e⟩) (h.below (belowNone hgrow)).cells (ints_oneCell _ _) (by omega) ?_; intro w2 hown2 hgrow2))
 go_ret
 simp only [Nat.zero_add, List.nil_append] at hown2 ⊢
 exact ⟨rfl, Bsl.own hown2, (belowNone hgrow).grown hgrow2 hgrow.size (fun k hk => by obtain rfl := Option.some.inj hk; exact Nat.le_refl _)⟩
theorem conv_bytesS (s : ByteArray) (w : World) (hs : s.size ≤ maxLen) : ∃ cap W2, (convert 9 22 (.string s)).run Tryz.prog w = .ok (.slice (some ⟨w.heap.size, 0, none⟩) s.size cap) W2 ∧
  Bsl W2 w.heap.size w.heap.size s.size cap (mem.bytesZ s) ∧ Below w.heap.size w W2 := by
 have h := run_bytes_of_string (P := Tryz.prog) w 9 22 5 s Tryz.underlying9 Tryz.underlying22 Tryz.underlying5
 have hge := grownCap_ge w s.size 0 5
 have hcm := grownCap_le_maxLen w s.size 0 5 hs
 obtain ⟨cap, hcap⟩ : ∃ cap, cap = grownCap w s.size 0 5 := ⟨_, rfl⟩
 rw [← hcap] at h hge hcm
 have hsz : (bytesRow s cap).size = cap := by unfold bytesRow; have : s.data.size = s.size := rfl; simp; omega
 have hnew : (w.drew.alloc (.cells (bytesRow s cap) 5 ((bytesRow s cap).size, (bytesRow s cap).size + 1))).heap[w.heap.size]? = some (.cells (bytesRow s cap) 5 ((bytesRow s cap).size, (bytesRow s cap).size + 1)) := heap_alloc_new w.drew _
 refine ⟨cap, _, h, ⟨mem.bytesZ_len s, hge, hcm, Nat.le_refl _, by simp, fun j hj => ⟨?_, ?_⟩, fun i hi => ?_⟩, (Below.refl _ _).drew.alloc (Nat.le_refl _) _⟩
 ·rw [dt.cell_cells hnew, Array.getElem?_eq_getElem (by omega)]
  rfl
 ·unfold World.frozen?
  simp only [hnew]
  rw [hsz]
  simp
  omega
 ·rw [dt.cell_cells hnew i]
  have hi' : i < s.data.size := hi
  unfold bytesRow mem.bytesZ
  rw [Array.getElem?_append_left (by simpa using hi')]
  have e2 : (s.data.toList.map fun b => (b.toNat : Int)).getD i 0 = ((s.data[i]'hi').toNat : Int) := by simp [List.getD, Array.getElem?_eq_getElem hi']
  rw [e2, Array.getElem?_map, Array.getElem?_eq_getElem hi']
  rfl
theorem row_headS {k : IntKind} {w : World} {a : Option Addr} {n c : Nat} {l : List Int} (h : Row k w a n c l) {j : Nat} (hj : j ≤ l.length) : Row k w a j c (l.take j) := by
 have hl := h.len
 have hle := h.le
 refine ⟨by simp; omega, by omega, h.nil, ?_⟩
 rcases h.at_ with h0 | ⟨b, off, e, hb, hc⟩
 ·exact .inl (by omega)
 ·refine .inr ⟨b, off, e, hb, fun i hi => ?_⟩
  rw [hc i (by omega)]
  simp [List.getD, hi]
theorem flat_bytS : ∀ zs : List Int, zs.all mem.scB = true → mem.Byt (zs.flatMap mem.putB)
 | [], _ => by intro x hx; cases hx
 | c :: zs, h => by
  rw [List.all_cons, Bool.and_eq_true] at h
  intro x hx
  rw [List.flatMap_cons] at hx
  rcases List.mem_append.1 hx with h1 | h1
  ·exact mem.putB_byt ((mem.scB_iff c).1 h.1) x h1
  ·exact flat_bytS zs h.2 x h1
theorem cut_all {z : List Int} (hz : mem.Byt z) (T : Nat) : ((chs z).take T).all mem.scB = true := by
 rw [List.all_eq_true]
 exact fun q hq => (mem.scB_iff q).2 (lx.chs_sc hz q (List.mem_of_mem_take hq))
theorem cut_byt {z : List Int} (hz : mem.Byt z) (T : Nat) : mem.Byt (cutS (chs z) T) := flat_bytS _ (cut_all hz T)
theorem cut_len {z : List Int} (hz : mem.Byt z) (T : Nat) : (cutS (chs z) T).length ≤ z.length := by
 have e := (mem.decF_flat z.length z hz).2.2.2
 have e2 := mem.decZ_le z hz
 have e3 : (chs z).flatMap mem.putB = cutS (chs z) T ++ ((chs z).drop T).flatMap mem.putB := by unfold cutS; rw [← List.flatMap_append, List.take_append_drop]
 have e4 : ((chs z).flatMap mem.putB).length = (mem.decZ z).2 := e
 rw [e3, List.length_append] at e4
 omega
theorem bytesTo_ok (a : Option Addr) (n c : Nat) (z : List Int) (T : Nat) (w : World) (h : Row .u8 w a n c z) (hz : mem.Byt z) (hn : n ≤ 1073741824) (hT : T ≤ (chs z).length) :
  Calls Tryz.prog 13 #[.slice a n c, .int .i64 T] w fun e w' => ∃ g cap, e = .returned (.slice (some ⟨g, 0, none⟩) (cutS (chs z) T).length cap) ∧ Bsl w' w.heap.size g (cutS (chs z) T).length cap (cutS (chs z) T) ∧ Below w.heap.size w w' := by
 have hD := hide (mem.decode_bytes a n c z w h hz (by omega))
 have hzl := h.len
 clear h
 go_enter Tryz.func13, Tryz.ntmps13
 go_wp2_with fail
 refine (unhide hD).mono ?_
 rintro e w1 ⟨v, rfl, hown, b1⟩
 obtain ⟨a1, c1, rfl, hrow⟩ := mem.own_row hown
 clear hD hown
 have hrow2 : Row .i32 w1 a1 T c1 ((chs z).take T) := row_headS hrow hT
 have hlc := hrow.le
 have hT2 : T ≤ (mem.decZ z).1.length := hT
 have hTi : ¬ (((mem.decZ z).1.length : Int) < (T : Int)) := by omega
 have hT0 : ¬ ((T : Int) < 0) := by omega
 have hcl : (mem.decZ z).1.length ≤ 1073741824 := by have h3 := Nat.le_trans (mem.decZ_len _ hz) (mem.decZ_le _ hz); omega
 have hSb : mem.bytesZ (mem.encS ((chs z).take T)) = cutS (chs z) T := by
  unfold mem.encS
  rw [if_pos (cut_all hz T)]
  exact mem.bytesZ_str _ (cut_byt hz T)
 have hlen := cut_len hz T
 obtain ⟨N, hN⟩ : ∃ N, N = (mem.decZ z).1.length := ⟨_, rfl⟩
 obtain ⟨g, hg⟩ : ∃ g, g = (mem.decZ z).2 := ⟨_, rfl⟩
 have hE := hide (mem.encode_any a1 T c1 ((chs z).take T) w1 hrow2 (by omega))
 obtain ⟨ES, hES⟩ : ∃ ES, ES = mem.encS ((chs z).take T) := ⟨_, rfl⟩
 obtain ⟨CZ, hCZ⟩ : ∃ CZ, CZ = cutS (chs z) T := ⟨_, rfl⟩
 rw [← hN] at hT2 hTi hlc ⊢
 rw [← hg]
 rw [← hES] at hE hSb
 rw [← hCZ] at hSb hlen
 have HCZ := hide hCZ
 have hsE : ES.size = CZ.length := by rw [← mem.bytesZ_len, hSb]
 have HS := hide (And.intro hSb hsE)
 clear hN hg hrow hrow2 hES hT hcl hSb hCZ
 go_wp2_with fail
 refine (unhide hE).mono ?_
 rintro e w2 ⟨rfl, b2⟩
 obtain ⟨cap, W3, hc3, hb3, b3⟩ := conv_bytesS ES w2 (by unfold maxLen; omega)
 rw [hsE] at hc3 hb3
 have HB := hide (And.intro hb3 b3)
 clear hb3 b3 hE hsE
 go_wp2_with fail
 go_ret
 obtain ⟨hb3, b3⟩ := unhide HB
 have b12 := b1.trans (b2.mono b1.size)
 rw [(unhide HS).1] at hb3
 have e := unhide HCZ
 subst e
 exact ⟨_, cap, rfl, hb3.base b12.size, b12.trans (b3.mono b12.size)⟩
set_option maxHeartbeats 2000000 in
set_option maxRecDepth 4000 in
theorem token10_ok (p n cap : Nat) (ts : List Tk) (m : Nat) (t : Tk) (w : World) (hn : ts.length = n) (hn2 : n ≤ 4294967296) (hp : p < w.heap.size) (hrows : ∀ i u, ts[i]? = some u → RowAt w p (i * 7) u.cells) (hm : ts[m]? = some t) (hun : ∀ q u, ts[q]? = some u → u.ln = t.ln ∧ u.co = t.co → q = m) :
  Calls Tryz.prog 12 #[.slice (some ⟨p, 0, none⟩) n cap, .agg #[.int .i64 t.ln, .int .i64 t.co]] w fun e w' => e = .returned (.int .i64 m) ∧ Below w.heap.size w w' := by
 have hml : m < ts.length := (List.getElem?_eq_some_iff.1 hm).1
 go_enter Tryz.func12, Tryz.ntmps12
 go_wp2_with fail
 obtain ⟨w0, hw0⟩ : ∃ w0, w0 = w.alloc (.cells #[.int .i64 t.ln, .int .i64 t.co] 37) := ⟨_, rfl⟩
 have b0 : Below w.heap.size w w0 := by rw [hw0]; exact (Below.refl _ _).alloc (Nat.le_refl _) _
 have hat : w0.heap[w.heap.size]? = some (.cells #[.int .i64 t.ln, .int .i64 t.co] 37 (0, 0)) := by rw [hw0]; exact heap_alloc_new _ _
 have z0 : w.heap.size + 1 ≤ w0.heap.size := by rw [hw0]; simp
 have hR0 := hide (fun i u hu => (hrows i u hu).below b0)
 rw [← hw0]
 clear hw0 hrows
 go_loopw [5] (fun i wr => ∃ k : Nat, k ≤ m ∧ i = .int .i64 k ∧ Below w0.heap.size w0 wr) (fun i _ => m + 1 - (intOf i).toNat)
 case atStart => exact ⟨0, Nat.zero_le _, rfl, Below.refl _ _⟩
 case round =>
  obtain ⟨k, hk, rfl, hb⟩ := hrel
  have ki : (k : Int) < (n : Int) := by omega
  have hkl : k < ts.length := by omega
  have hget := List.getElem?_eq_getElem hkl
  obtain ⟨u, hu⟩ : ∃ u, u = ts[k] := ⟨_, rfl⟩
  rw [← hu] at hget
  clear hu
  have hrow7 := (unhide hR0) k u hget
  unfold Tk.cells at hrow7
  have hc := fun (q : Nat) (v : Value) hv => (hb.cell (p := ⟨p, k * 7 + q, none⟩) (show p < w0.heap.size by omega)).trans (hrow7 q v hv)
  have m1 : wr.cell? ⟨p, k * 7 + 1, none⟩ = some (.int .i64 u.ln) := hc 1 _ rfl
  have m2 : wr.cell? ⟨p, k * 7 + 2, none⟩ = some (.int .i64 u.co) := hc 2 _ rfl
  have hA := (hb.block w.heap.size (by omega)).trans hat
  have x0 : wr.cell? ⟨w.heap.size, 0, none⟩ = some (.int .i64 t.ln) := (dt.cell_cells hA 0).trans rfl
  have x1 : wr.cell? ⟨w.heap.size, 1, none⟩ = some (.int .i64 t.co) := (dt.cell_cells hA 1).trans rfl
  have HB := hide hb
  clear hc hrow7 hA hb
  by_cases hkm : k = m
  ·subst hkm
   rw [hm] at hget
   obtain rfl := Option.some.inj hget
   clear hget hun hm hR0
   go_wp2_with fail
   go_region
   go_wp2_with fail
   go_ret
   exact ⟨rfl, b0.trans (((unhide HB).drew).mono b0.size)⟩
  ·have hne : ¬ (u.ln = t.ln ∧ u.co = t.co) := fun e => hkm (hun k u hget e)
   have HN := hide hne
   clear hne
   obtain ⟨uk, ul, uo, uf, ug, ux, uv⟩ := u
   obtain ⟨tk, tl, to', tf, tg, tx, tv⟩ := t
   simp only at m1 m2 x0 x1
   have hnn : ¬ (ul = tl ∧ uo = to') := unhide HN
   by_cases hl : ul = tl
   ·subst hl
    have ho : ¬ uo = to' := fun e => hnn ⟨rfl, e⟩
    clear hnn
    go_wp2_with fail
    go_region
    go_wp2_with fail
    go_roundw
    case rel => exact ⟨k + 1, by omega, by go_num, (unhide HB).drew⟩
    case measure => simp only [intOf]; omega
   ·clear hnn
    go_wp2_with fail
    go_region
    go_wp2_with fail
    go_roundw
    case rel => exact ⟨k + 1, by omega, by go_num, (unhide HB).drew⟩
    case measure => simp only [intOf]; omega
def ssrc1 : ByteArray := ⟨#[34, 100, 34, 32, 116, 121, 112, 101, 32, 116, 121, 112, 101, 123, 116, 121, 112, 101, 58, 116, 121, 112, 101, 125]⟩
def ssrc2 : ByteArray := ⟨#[101, 120, 116, 101, 110, 100, 32, 116, 121, 112, 101, 32, 84, 32, 116, 121, 112, 101, 32, 85]⟩
def ns : ByteArray := ⟨#[100]⟩
def sy1 : Sy := ⟨3, false, (true, false, ns), bType, [], [], [fdD (false, false, em) (bType, 1, 15) [] bType em []], [], [], [], [], false, [], 1, 10⟩
theorem sdoc1 : (sdocG (mem.bytesZ ssrc1) 9).1 = some [sy1.d] := by kernel_rfl
theorem sdoc1k : (sdocG (mem.bytesZ ssrc1) 9).2.kd = 0 := by kernel_rfl
theorem sdoc2 : (sdocG (mem.bytesZ ssrc2) 9).1 = none := by kernel_rfl
theorem sdoc2k : (sdocG (mem.bytesZ ssrc2) 9).2.kd = 70 ∧ (sdocG (mem.bytesZ ssrc2) 9).2.tok.ln = 1 ∧ (sdocG (mem.bytesZ ssrc2) 9).2.tok.co = 15 := by refine ⟨?_, ?_, ?_⟩ <;> kernel_rfl
theorem val_row {w : World} {v : Value} {r : Dt} {cs : List Value} {F : List Nat} (h : Ow w (.val v r) cs F) : ∃ ds, cs = v :: ds ∧ Ow w r ds F := by
 unfold Ow at h
 obtain ⟨ds, h1, _, h2⟩ := h
 exact ⟨ds, h1, h2⟩
theorem lst_row {w : World} {k : Nat} {e r : Dt} {cs : List Value} {F : List Nat} (h : Ow w (.lst k (Dt.of [e]) r) cs F) : ∃ p c ds cs' G F2, cs = .slice (some ⟨p, 0, none⟩) 1 c :: ds ∧ RowAt w p 0 cs' ∧ Ow w e cs' G ∧ Ow w r ds F2 := by
 unfold Ow at h
 obtain ⟨a, n, c, ds, F1, F2, rfl, _, _, _, h4, h5, rfl⟩ := h
 rcases h4 with ⟨_, h4, _⟩ | ⟨p, G, rfl, rfl, h4⟩
 ·exact absurd h4 (by unfold Dt.of; intro e; cases e)
 ·unfold Dt.of OwIn at h4
  obtain ⟨m, cs', G1, G2, rfl, h6, _, h7, h8, rfl⟩ := h4
  unfold Dt.of OwIn at h8
  obtain ⟨rfl, _⟩ := h8
  exact ⟨p, c, ds, cs', G1, F2, rfl, h6, h7, h5⟩
theorem lst_nil {w : World} {k : Nat} {r : Dt} {cs : List Value} {F : List Nat} (h : Ow w (.lst k (Dt.of []) r) cs F) : ∃ a c ds F2, cs = .slice a 0 c :: ds ∧ Ow w r ds F2 := by
 unfold Ow at h
 obtain ⟨a, n, c, ds, F1, F2, rfl, _, _, _, h4, h5, rfl⟩ := h
 rcases h4 with ⟨_, _, rfl, _⟩ | ⟨p, G, rfl, rfl, h4⟩
 ·exact ⟨a, c, ds, F2, rfl, h5⟩
 ·unfold Dt.of OwIn at h4
  obtain ⟨rfl, _⟩ := h4
  exact ⟨_, c, ds, F2, rfl, h5⟩
theorem one_row {w : World} {k : Nat} {d : Dt} {lo hi : Nat} {a : Option Addr} {n c : Nat} {F : List Nat} (h : Sh w k [d] lo hi a n c F) : ∃ p cs G, a = some ⟨p, 0, none⟩ ∧ n = 1 ∧ RowAt w p 0 cs ∧ Ow w d cs G := by
 rcases h.at_ with ⟨_, h4, _⟩ | ⟨p, G, rfl, rfl, h4⟩
 ·exact absurd h4 (by unfold Dt.of; intro e; cases e)
 ·unfold Dt.of OwIn at h4
  obtain ⟨m, cs', G1, G2, h5, h6, _, h7, h8, rfl⟩ := h4
  exact ⟨p, cs', G1, rfl, h.len, h6, h7⟩
theorem sy1_cells {w : World} {lo hi : Nat} {a : Option Addr} {n c : Nat} {F : List Nat} (h : Sh w 17 [sy1.d] lo hi a n c F) : ∃ p pf cf, a = some ⟨p, 0, none⟩ ∧ n = 1 ∧ p < w.heap.size ∧ pf < w.heap.size ∧ w.cell? ⟨p, 0, none⟩ = some (.int .i64 3) ∧ w.cell? ⟨p, 2, none⟩ = some (.bool true) ∧ w.cell? ⟨p, 4, none⟩ = some (.string ns) ∧ w.cell? ⟨p, 5, none⟩ = some (.string bType) ∧ w.cell? ⟨p, 8, none⟩ = some (.slice (some ⟨pf, 0, none⟩) 1 cf) ∧ w.cell? ⟨p, 15, none⟩ = some (.int .i64 1) ∧ w.cell? ⟨p, 16, none⟩ = some (.int .i64 10) ∧ w.cell? ⟨pf, 5, none⟩ = some (.string bType) := by
 obtain ⟨p, cs, G1, rfl, rfl, hr, how⟩ := one_row h
 unfold sy1 Sy.d ntD at how
 obtain ⟨d1, rfl, w1⟩ := val_row how
 obtain ⟨d2, rfl, w2⟩ := val_row w1
 obtain ⟨d3, rfl, w3⟩ := val_row w2
 obtain ⟨d4, rfl, w4⟩ := val_row w3
 obtain ⟨d5, rfl, w5⟩ := val_row w4
 obtain ⟨d6, rfl, w6⟩ := val_row w5
 obtain ⟨a1, c1, d7, F1, rfl, w7⟩ := lst_nil w6
 obtain ⟨a2, c2, d8, F2, rfl, w8⟩ := lst_nil w7
 obtain ⟨pf, cf, d9, csf, Gf, Ff, rfl, hrf, hof, w9⟩ := lst_row w8
 obtain ⟨a4, c4, d10, F4, rfl, w10⟩ := lst_nil w9
 obtain ⟨a5, c5, d11, F5, rfl, w11⟩ := lst_nil w10
 obtain ⟨a6, c6, d12, F6, rfl, w12⟩ := lst_nil w11
 obtain ⟨a7, c7, d13, F7, rfl, w13⟩ := lst_nil w12
 obtain ⟨d14, rfl, w14⟩ := val_row w13
 obtain ⟨a8, c8, d15, F8, rfl, w15⟩ := lst_nil w14
 obtain ⟨d16, rfl, w16⟩ := val_row w15
 obtain ⟨d17, rfl, w17⟩ := val_row w16
 unfold fdD ntD at hof
 obtain ⟨f1, rfl, y1⟩ := val_row hof
 obtain ⟨f2, rfl, y2⟩ := val_row y1
 obtain ⟨f3, rfl, y3⟩ := val_row y2
 obtain ⟨f4, rfl, y4⟩ := val_row y3
 obtain ⟨b5, e5, f5, G5, rfl, y5⟩ := lst_nil y4
 obtain ⟨f6, rfl, y6⟩ := val_row y5
 have e0 := hr 0 _ rfl
 have e2 := hr 2 _ rfl
 have e4 := hr 4 _ rfl
 have e5' := hr 5 _ rfl
 have e8 := hr 8 _ rfl
 have e15 := hr 15 _ rfl
 have e16 := hr 16 _ rfl
 have g5 := hrf 5 _ rfl
 simp only [Nat.zero_add] at e0 e2 e4 e5' e8 e15 e16 g5
 exact ⟨p, pf, cf, rfl, rfl, World.block_lt_of_cell? w _ e0, World.block_lt_of_cell? w _ g5, e0, e2, e4, e5', e8, e15, e16, g5⟩
theorem row_newS (W : World) (zs : List Int) (t : TypeId) (fr : Nat × Nat) : Row .u8 (W.alloc (.cells (zs.map (Value.int .u8)).toArray t fr)) (some ⟨W.heap.size, 0, none⟩) zs.length zs.length zs := by
 refine ⟨rfl, Nat.le_refl _, (fun e => by cases e), .inr ⟨W.heap.size, 0, rfl, by simp, fun i hi => ?_⟩⟩
 have e : (W.alloc (.cells (zs.map (Value.int .u8)).toArray t fr)).cell? ⟨W.heap.size, 0 + i, none⟩ = (zs.map (Value.int .u8)).toArray[0 + i]? := World.cell?_alloc_mark _ _ _ _ _
 rw [e]
 simp [List.getD, hi]
theorem sparse1_ok (W : World) (N : Nat) (hN : N = W.heap.size) : Calls Tryz.prog 9 #[.slice (some ⟨N, 0, none⟩) 24 24, .int .i64 9] (W.alloc (.cells #[Value.int .u8 34, Value.int .u8 100, Value.int .u8 34, Value.int .u8 32, Value.int .u8 116, Value.int .u8 121, Value.int .u8 112, Value.int .u8 101, Value.int .u8 32, Value.int .u8 116, Value.int .u8 121, Value.int .u8 112, Value.int .u8 101, Value.int .u8 123, Value.int .u8 116, Value.int .u8 121, Value.int .u8 112, Value.int .u8 101, Value.int .u8 58, Value.int .u8 116, Value.int .u8 121, Value.int .u8 112, Value.int .u8 101, Value.int .u8 125] 5 (24, 25))) fun e w' => ∃ p pf cf c, e = .returned (.tuple #[.slice (some ⟨p, 0, none⟩) 1 c, .agg #[.int .i64 0, .slice none 0 0, .slice none 0 0]]) ∧ p < w'.heap.size ∧ pf < w'.heap.size ∧ w'.cell? ⟨p, 0, none⟩ = some (.int .i64 3) ∧ w'.cell? ⟨p, 2, none⟩ = some (.bool true) ∧ w'.cell? ⟨p, 4, none⟩ = some (.string ns) ∧ w'.cell? ⟨p, 5, none⟩ = some (.string bType) ∧ w'.cell? ⟨p, 8, none⟩ = some (.slice (some ⟨pf, 0, none⟩) 1 cf) ∧ w'.cell? ⟨p, 15, none⟩ = some (.int .i64 1) ∧ w'.cell? ⟨p, 16, none⟩ = some (.int .i64 10) ∧ w'.cell? ⟨pf, 5, none⟩ = some (.string bType) ∧ Below W.heap.size W w' := by
 subst hN
 have hb : Below W.heap.size W (W.alloc (.cells #[Value.int .u8 34, Value.int .u8 100, Value.int .u8 34, Value.int .u8 32, Value.int .u8 116, Value.int .u8 121, Value.int .u8 112, Value.int .u8 101, Value.int .u8 32, Value.int .u8 116, Value.int .u8 121, Value.int .u8 112, Value.int .u8 101, Value.int .u8 123, Value.int .u8 116, Value.int .u8 121, Value.int .u8 112, Value.int .u8 101, Value.int .u8 58, Value.int .u8 116, Value.int .u8 121, Value.int .u8 112, Value.int .u8 101, Value.int .u8 125] 5 (24, 25))) := (Below.refl _ _).alloc (Nat.le_refl _) _
 refine (parse_ct (some ⟨W.heap.size, 0, none⟩) 24 24 (mem.bytesZ ssrc1) 9 _ (row_newS W (mem.bytesZ ssrc1) 5 (24, 25)) (by decide) (mem.bytesZ_byt _) (by rfl)).mono ?_
 rintro e w2 ⟨r, C, a', n', c', F, fs, hq, rfl, hsh, hfl, b2⟩
 have h1 : (sdocG (mem.bytesZ ssrc1) 9).1 = r := congrArg Prod.fst hq
 have h2 : (sdocG (mem.bytesZ ssrc1) 9).2 = C := congrArg Prod.snd hq
 rw [sdoc1] at h1
 subst h1
 have hk := sdoc1k
 rw [h2] at hk
 unfold FltAt at hfl
 rw [if_pos hk] at hfl
 subst hfl
 obtain ⟨p, pf, cf, rfl, rfl, l1, l2, q0, q2, q4, q5, q8, q15, q16, g5⟩ := sy1_cells hsh
 exact ⟨p, pf, cf, c', rfl, l1, l2, q0, q2, q4, q5, q8, q15, q16, g5, hb.trans (b2.mono hb.size)⟩
theorem sparse2_ok (W : World) (N : Nat) (hN : N = W.heap.size) : Calls Tryz.prog 9 #[.slice (some ⟨N, 0, none⟩) 20 20, .int .i64 9] (W.alloc (.cells #[Value.int .u8 101, Value.int .u8 120, Value.int .u8 116, Value.int .u8 101, Value.int .u8 110, Value.int .u8 100, Value.int .u8 32, Value.int .u8 116, Value.int .u8 121, Value.int .u8 112, Value.int .u8 101, Value.int .u8 32, Value.int .u8 84, Value.int .u8 32, Value.int .u8 116, Value.int .u8 121, Value.int .u8 112, Value.int .u8 101, Value.int .u8 32, Value.int .u8 85] 5 (20, 21))) fun e w' => ∃ b a c, e = .returned (.tuple #[.slice a 0 c, .agg #[.int .i64 70, .slice (some ⟨b, 0, none⟩) 1 1, .slice none 0 0]]) ∧ W.heap.size ≤ b ∧ b < w'.heap.size ∧ w'.cell? ⟨b, 0, none⟩ = some (.int .i64 1) ∧ w'.cell? ⟨b, 1, none⟩ = some (.int .i64 15) ∧ Below W.heap.size W w' := by
 subst hN
 have hb : Below W.heap.size W (W.alloc (.cells #[Value.int .u8 101, Value.int .u8 120, Value.int .u8 116, Value.int .u8 101, Value.int .u8 110, Value.int .u8 100, Value.int .u8 32, Value.int .u8 116, Value.int .u8 121, Value.int .u8 112, Value.int .u8 101, Value.int .u8 32, Value.int .u8 84, Value.int .u8 32, Value.int .u8 116, Value.int .u8 121, Value.int .u8 112, Value.int .u8 101, Value.int .u8 32, Value.int .u8 85] 5 (20, 21))) := (Below.refl _ _).alloc (Nat.le_refl _) _
 refine (parse_ct (some ⟨W.heap.size, 0, none⟩) 20 20 (mem.bytesZ ssrc2) 9 _ (row_newS W (mem.bytesZ ssrc2) 5 (20, 21)) (by decide) (mem.bytesZ_byt _) (by rfl)).mono ?_
 rintro e w2 ⟨r, C, a', n', c', F, fs, hq, rfl, hsh, hfl, b2⟩
 have h1 : (sdocG (mem.bytesZ ssrc2) 9).1 = r := congrArg Prod.fst hq
 have h2 : (sdocG (mem.bytesZ ssrc2) 9).2 = C := congrArg Prod.snd hq
 rw [sdoc2] at h1
 subst h1
 obtain ⟨e1, e2, e3⟩ := sdoc2k
 rw [h2] at e1 e2 e3
 unfold FltAt at hfl
 rw [if_neg (by rw [e1]; decide), e1, e2, e3] at hfl
 obtain ⟨b, h3, h4, rfl, h5, h6⟩ := hfl
 have hl := hsh.len
 simp at hl
 subst hl
 exact ⟨b, a', c', rfl, Nat.le_trans hb.size h3, h4, h5, h6, hb.trans (b2.mono hb.size)⟩
set_option maxHeartbeats 4000000 in
set_option maxRecDepth 10000 in
theorem awake10_ok (w : World) : Calls Tryz.prog 8 #[] w fun e w' => e = .returned (.bool true) ∧ Below w.heap.size w w' := by
 have kc := fun (w : World) (C : Array Value) (n c : Nat) => Lib.run_convert_bytes_const (P := Tryz.prog) w 22 5 C n c Tryz.underlying22 Tryz.underlying5
 go_enter Tryz.func8, Tryz.ntmps8
 go_wp2_with fail
 refine (sparse1_ok w w.heap.size rfl).mono ?_
 rintro e w2 ⟨p, pf, cf, c, rfl, l1, l2, q0, q2, q4, q5, q8, q15, q16, g5, bw2⟩
 obtain ⟨X, hX⟩ : ∃ X, X = w2.alloc (.cells #[.int .i64 0, .slice none 0 0, .slice none 0 0] 29) := ⟨_, rfl⟩
 have bX : Below w2.heap.size w2 X := by rw [hX]; exact (Below.refl _ _).alloc (Nat.le_refl _) _
 have hat : X.heap[w2.heap.size]? = some (.cells #[.int .i64 0, .slice none 0 0, .slice none 0 0] 29 (0, 0)) := by rw [hX]; exact heap_alloc_new _ _
 have zX : w2.heap.size + 1 = X.heap.size := by rw [hX]; simp
 have bw2s := bw2.size
 have BW := bw2.trans (bX.mono bw2.size)
 have T := fun o (b i : Nat) (v : Value) (hb : b < w2.heap.size) (h : w2.cell? ⟨b, i, none⟩ = some v) => (((Below.refl w2.heap.size w2).alloc (Nat.le_refl _) o).cell (p := ⟨b, i, none⟩) hb).trans h
 have r0 := fun o => T o _ _ _ l1 q0
 have r2 := fun o => T o _ _ _ l1 q2
 have r4 := fun o => T o _ _ _ l1 q4
 have r5 := fun o => T o _ _ _ l1 q5
 have r8 := fun o => T o _ _ _ l1 q8
 have r15 := fun o => T o _ _ _ l1 q15
 have r16 := fun o => T o _ _ _ l1 q16
 have rg := fun o => T o _ _ _ l2 g5
 unfold ns at r4
 unfold bType at r5 rg
 have HX := hide (And.intro hX (And.intro bX (And.intro hat (And.intro zX BW))))
 have kc1 := fun (o : Obj) (C : Array Value) (n c : Nat) => by simpa using kc (w2.alloc o) C n c
 clear T q0 q2 q4 q5 q8 q15 q16 g5 bw2 hX bX hat zX BW
 go_wp2_with fail
 obtain ⟨hX, bX, hat, zX, BW⟩ := unhide HX
 rw [← hX]
 refine (sparse2_ok X _ zX).mono ?_
 rintro e w4 ⟨b, a5, c5, rfl, lb0, lb, c0, c1, b4⟩
 have hF := (b4.block w2.heap.size (by omega)).trans hat
 have HT2 := hide (show w4.there w2.heap.size 0 3 from dt.there_cells hF (by decide))
 obtain ⟨W7, e7⟩ : ∃ W7, W7 = w4.setCells w2.heap.size 0 (#[.int .i64 70, .slice (some ⟨b, 0, none⟩) 1 1, .slice none 0 0] : Array Value).toList := ⟨_, rfl⟩
 have hF7 : W7.heap[w2.heap.size]? = some (.cells #[.int .i64 70, .slice (some ⟨b, 0, none⟩) 1 1, .slice none 0 0] 29 (0, 0)) := by rw [e7]; exact (dt.setCells_at [.int .i64 70, .slice (some ⟨b, 0, none⟩) 1 1, .slice none 0 0] 0 w4 _ hF).trans (by kernel_rfl)
 have hb7 : W7.heap[b]? = w4.heap[b]? := by rw [e7]; exact dt.heap_setCells w2.heap.size b (by omega) _ 0 w4
 have C0 := (dt.cell_blk hb7 0).trans c0
 have C1 := (dt.cell_blk hb7 1).trans c1
 have BW7 : Below w.heap.size w W7 := by
  rw [e7]
  have h0 := BW.trans (b4.mono BW.size)
  exact dt.below_setCells _ _ _ _ h0 (by omega)
 have f0 : W7.cell? ⟨w2.heap.size, 0, none⟩ = some (.int .i64 70) := (dt.cell_cells hF7 0).trans rfl
 have f1 : W7.cell? ⟨w2.heap.size, 1, none⟩ = some (.slice (some ⟨b, 0, none⟩) 1 1) := (dt.cell_cells hF7 1).trans rfl
 have E7 := hide e7
 have HB := hide BW7
 clear hF hF7 hb7 BW7 e7 c0 c1 b4 hat bX BW HX hX zX kc kc1 r0 r2 r4 r5 r8 r15 r16 rg lb lb0 bw2s
 go_wp2_with (first
  | (refine wpList_store_mid (by rfl) 29 _ _ (by rfl) w2.heap.size 0 #[.int .i64 70, .slice (some ⟨b, 0, none⟩) 1 1, .slice none 0 0] (by rfl) (by rfl) (unhide HT2) infoFl (dt.one_cells (cs := [.int .i64 70, .slice (some ⟨b, 0, none⟩) 1 1, .slice none 0 0]) (by rfl)) ?_; rw [← unhide E7]))
 go_ret
 exact ⟨rfl, unhide HB⟩
open dt (Dt Kp RowAt Ow Grow)
theorem pos_one (w : World) (b b' : Nat) (x y : Int) (h0 : w.cell? ⟨b, 0, none⟩ = some (.int .i64 x)) (h1 : w.cell? ⟨b, 1, none⟩ = some (.int .i64 y)) (g0 : w.cell? ⟨b', 0, none⟩ = some (.int .i64 x)) (g1 : w.cell? ⟨b', 1, none⟩ = some (.int .i64 y)) (hb : b < w.heap.size) (hb' : b' < w.heap.size) : Calls Tryz.prog 27 #[.slice (some ⟨b, 0, none⟩) 1 1, .slice (some ⟨b', 0, none⟩) 1 1] w fun e w' => e = .returned (.int .i64 0) ∧ Below w.heap.size w w' := by
 have hx : ¬ x < x := by omega
 have hy : ¬ y < y := by omega
 go_enter Tryz.func27, Tryz.ntmps27
 go_wp2_with fail
 have hS0 : Below w.heap.size w { w with drawn := w.drawn + 1 } := (Below.refl _ _).drew
 refine wp_loop_rounds 2 ?_
 rw [rounds_succ]
 go_wp2_with fail
 refine wp_region_noPanic ?_
 refine wp_region_held (S := fun w' => Below w.heap.size w w') mixed ?_
 refine rgn.tl (i := 0) (v := ?v1) rfl (by kernel_rfl) (fun _ _ _ h => h) (by rfl) ?hy1 hS0 ?_
 case hy1 => (intro w' hw'; go_simp; try with_reducible rfl)
 simp only [rgn.l1, rgn.l2, rgn.l3, Act.put, rgn.l4, rgn.l5, rgn.l6]
 refine rgn.tl (i := 1) (v := ?v2) rfl (by kernel_rfl) (fun _ _ _ h => h) (by rfl) ?hy2 hS0 ?_
 case hy2 => (intro w' hw'; go_simp; try with_reducible rfl)
 simp only [rgn.l1, rgn.l2, rgn.l3, Act.put, rgn.l4, rgn.l5, rgn.l6]
 refine rgn.tl (i := 2) (v := ?v3) rfl (by kernel_rfl) (fun _ _ _ h => h) (by rfl) ?hy3 hS0 ?_
 case hy3 => (intro w' hw'; go_simp; try with_reducible rfl)
 simp only [rgn.l1, rgn.l2, rgn.l3, Act.put, rgn.l4, rgn.l5, rgn.l6]
 refine rgn.tl (i := 3) (v := ?v4) rfl (by kernel_rfl) (fun _ _ _ h => h) (by rfl) ?hy4 hS0 ?_
 case hy4 => (intro w' hw'; go_simp; try with_reducible rfl)
 simp only [rgn.l1, rgn.l2, rgn.l3, Act.put, rgn.l4, rgn.l5, rgn.l6]
 refine rgn.tl (i := 4) (v := ?v5) rfl (by kernel_rfl) (fun _ _ _ h => h) (by rfl) ?hy5 hS0 ?_
 case hy5 => (intro w' hw'; have h0' := (hw'.cell (p := ⟨b, 0, none⟩) hb).trans h0; go_simp; try with_reducible rfl)
 simp only [rgn.l1, rgn.l2, rgn.l3, Act.put, rgn.l4, rgn.l5, rgn.l6]
 refine rgn.tl (i := 5) (v := ?v6) rfl (by kernel_rfl) (fun _ _ _ h => h) (by rfl) ?hy6 hS0 ?_
 case hy6 => (intro w' hw'; go_simp; try with_reducible rfl)
 simp only [rgn.l1, rgn.l2, rgn.l3, Act.put, rgn.l4, rgn.l5, rgn.l6]
 refine rgn.tl (i := 6) (v := ?v7) rfl (by kernel_rfl) (fun _ _ _ h => h) (by rfl) ?hy7 hS0 ?_
 case hy7 => (intro w' hw'; go_simp; try with_reducible rfl)
 simp only [rgn.l1, rgn.l2, rgn.l3, Act.put, rgn.l4, rgn.l5, rgn.l6]
 refine rgn.tl (i := 7) (v := ?v8) rfl (by kernel_rfl) (fun _ _ _ h => h) (by rfl) ?hy8 hS0 ?_
 case hy8 => (intro w' hw'; go_simp; try with_reducible rfl)
 simp only [rgn.l1, rgn.l2, rgn.l3, Act.put, rgn.l4, rgn.l5, rgn.l6]
 refine rgn.tl (i := 8) (v := ?v9) rfl (by kernel_rfl) (fun _ _ _ h => h) (by rfl) ?hy9 hS0 ?_
 case hy9 => (intro w' hw'; go_simp; try with_reducible rfl)
 simp only [rgn.l1, rgn.l2, rgn.l3, Act.put, rgn.l4, rgn.l5, rgn.l6]
 refine rgn.tl (i := 9) (v := ?v10) rfl (by kernel_rfl) (fun _ _ _ h => h) (by rfl) ?hy10 hS0 ?_
 case hy10 => (intro w' hw'; have g0' := (hw'.cell (p := ⟨b', 0, none⟩) hb').trans g0; go_simp; try with_reducible rfl)
 simp only [rgn.l1, rgn.l2, rgn.l3, Act.put, rgn.l4, rgn.l5, rgn.l6]
 refine rgn.tl (i := 10) (v := ?v11) rfl (by kernel_rfl) (fun _ _ _ h => h) (by rfl) ?hy11 hS0 ?_
 case hy11 => (intro w' hw'; go_simp; try with_reducible rfl)
 simp only [rgn.l1, rgn.l2, rgn.l3, Act.put, rgn.l4, rgn.l5, rgn.l6]
 refine rgn.tl (i := 11) (v := ?v12) rfl (by kernel_rfl) (fun _ _ _ h => h) (by rfl) ?hy12 hS0 ?_
 case hy12 => (intro w' hw'; go_simp; try with_reducible rfl)
 simp only [rgn.l1, rgn.l2, rgn.l3, Act.put, rgn.l4, rgn.l5, rgn.l6]
 refine wpAnyH_done (by kernel_rfl) ?_ _; refine NoPanic.normal ?_
 have hS1 : Below w.heap.size w { w with drawn := w.drawn + 1 + 1 } := hS0.drew
 clear hS0
 have hS0 := hS1
 clear hS1
 go_wp2_with fail
 refine wp_region_noPanic ?_
 refine wp_region_held (S := fun w' => Below w.heap.size w w') mixed ?_
 refine rgn.tl (i := 0) (v := ?v13) rfl (by kernel_rfl) (fun _ _ _ h => h) (by rfl) ?hy13 hS0 ?_
 case hy13 => (intro w' hw'; go_simp; try with_reducible rfl)
 simp only [rgn.l1, rgn.l2, rgn.l3, Act.put, rgn.l4, rgn.l5, rgn.l6]
 refine rgn.tl (i := 1) (v := ?v14) rfl (by kernel_rfl) (fun _ _ _ h => h) (by rfl) ?hy14 hS0 ?_
 case hy14 => (intro w' hw'; go_simp; try with_reducible rfl)
 simp only [rgn.l1, rgn.l2, rgn.l3, Act.put, rgn.l4, rgn.l5, rgn.l6]
 refine rgn.tl (i := 2) (v := ?v15) rfl (by kernel_rfl) (fun _ _ _ h => h) (by rfl) ?hy15 hS0 ?_
 case hy15 => (intro w' hw'; go_simp; try with_reducible rfl)
 simp only [rgn.l1, rgn.l2, rgn.l3, Act.put, rgn.l4, rgn.l5, rgn.l6]
 refine rgn.tl (i := 3) (v := ?v16) rfl (by kernel_rfl) (fun _ _ _ h => h) (by rfl) ?hy16 hS0 ?_
 case hy16 => (intro w' hw'; go_simp; try with_reducible rfl)
 simp only [rgn.l1, rgn.l2, rgn.l3, Act.put, rgn.l4, rgn.l5, rgn.l6]
 refine rgn.tl (i := 4) (v := ?v17) rfl (by kernel_rfl) (fun _ _ _ h => h) (by rfl) ?hy17 hS0 ?_
 case hy17 => (intro w' hw'; have h0' := (hw'.cell (p := ⟨b, 0, none⟩) hb).trans h0; go_simp; try with_reducible rfl)
 simp only [rgn.l1, rgn.l2, rgn.l3, Act.put, rgn.l4, rgn.l5, rgn.l6]
 refine rgn.tl (i := 5) (v := ?v18) rfl (by kernel_rfl) (fun _ _ _ h => h) (by rfl) ?hy18 hS0 ?_
 case hy18 => (intro w' hw'; go_simp; try with_reducible rfl)
 simp only [rgn.l1, rgn.l2, rgn.l3, Act.put, rgn.l4, rgn.l5, rgn.l6]
 refine rgn.tl (i := 6) (v := ?v19) rfl (by kernel_rfl) (fun _ _ _ h => h) (by rfl) ?hy19 hS0 ?_
 case hy19 => (intro w' hw'; go_simp; try with_reducible rfl)
 simp only [rgn.l1, rgn.l2, rgn.l3, Act.put, rgn.l4, rgn.l5, rgn.l6]
 refine rgn.tl (i := 7) (v := ?v20) rfl (by kernel_rfl) (fun _ _ _ h => h) (by rfl) ?hy20 hS0 ?_
 case hy20 => (intro w' hw'; go_simp; try with_reducible rfl)
 simp only [rgn.l1, rgn.l2, rgn.l3, Act.put, rgn.l4, rgn.l5, rgn.l6]
 refine rgn.tl (i := 8) (v := ?v21) rfl (by kernel_rfl) (fun _ _ _ h => h) (by rfl) ?hy21 hS0 ?_
 case hy21 => (intro w' hw'; go_simp; try with_reducible rfl)
 simp only [rgn.l1, rgn.l2, rgn.l3, Act.put, rgn.l4, rgn.l5, rgn.l6]
 refine rgn.tl (i := 9) (v := ?v22) rfl (by kernel_rfl) (fun _ _ _ h => h) (by rfl) ?hy22 hS0 ?_
 case hy22 => (intro w' hw'; have g0' := (hw'.cell (p := ⟨b', 0, none⟩) hb').trans g0; go_simp; try with_reducible rfl)
 simp only [rgn.l1, rgn.l2, rgn.l3, Act.put, rgn.l4, rgn.l5, rgn.l6]
 refine rgn.tl (i := 10) (v := ?v23) rfl (by kernel_rfl) (fun _ _ _ h => h) (by rfl) ?hy23 hS0 ?_
 case hy23 => (intro w' hw'; go_simp; try with_reducible rfl)
 simp only [rgn.l1, rgn.l2, rgn.l3, Act.put, rgn.l4, rgn.l5, rgn.l6]
 refine rgn.tl (i := 11) (v := ?v24) rfl (by kernel_rfl) (fun _ _ _ h => h) (by rfl) ?hy24 hS0 ?_
 case hy24 => (intro w' hw'; go_simp; try with_reducible rfl)
 simp only [rgn.l1, rgn.l2, rgn.l3, Act.put, rgn.l4, rgn.l5, rgn.l6]
 refine wpAnyH_done (by kernel_rfl) ?_ _; refine NoPanic.normal ?_
 have hS1 : Below w.heap.size w { w with drawn := w.drawn + 1 + 1 + 1 } := hS0.drew
 clear hS0
 have hS0 := hS1
 clear hS1
 go_wp2_with fail
 refine wp_region_noPanic ?_
 refine wp_region_held (S := fun w' => Below w.heap.size w w') mixed ?_
 refine rgn.tl (i := 0) (v := ?v25) rfl (by kernel_rfl) (fun _ _ _ h => h) (by rfl) ?hy25 hS0 ?_
 case hy25 => (intro w' hw'; go_simp; try with_reducible rfl)
 simp only [rgn.l1, rgn.l2, rgn.l3, Act.put, rgn.l4, rgn.l5, rgn.l6]
 refine rgn.tl (i := 1) (v := ?v26) rfl (by kernel_rfl) (fun _ _ _ h => h) (by rfl) ?hy26 hS0 ?_
 case hy26 => (intro w' hw'; go_simp; try with_reducible rfl)
 simp only [rgn.l1, rgn.l2, rgn.l3, Act.put, rgn.l4, rgn.l5, rgn.l6]
 refine rgn.tl (i := 2) (v := ?v27) rfl (by kernel_rfl) (fun _ _ _ h => h) (by rfl) ?hy27 hS0 ?_
 case hy27 => (intro w' hw'; go_simp; try with_reducible rfl)
 simp only [rgn.l1, rgn.l2, rgn.l3, Act.put, rgn.l4, rgn.l5, rgn.l6]
 refine rgn.tl (i := 3) (v := ?v28) rfl (by kernel_rfl) (fun _ _ _ h => h) (by rfl) ?hy28 hS0 ?_
 case hy28 => (intro w' hw'; go_simp; try with_reducible rfl)
 simp only [rgn.l1, rgn.l2, rgn.l3, Act.put, rgn.l4, rgn.l5, rgn.l6]
 refine rgn.tl (i := 4) (v := ?v29) rfl (by kernel_rfl) (fun _ _ _ h => h) (by rfl) ?hy29 hS0 ?_
 case hy29 => (intro w' hw'; have h1' := (hw'.cell (p := ⟨b, 1, none⟩) hb).trans h1; go_simp; try with_reducible rfl)
 simp only [rgn.l1, rgn.l2, rgn.l3, Act.put, rgn.l4, rgn.l5, rgn.l6]
 refine rgn.tl (i := 5) (v := ?v30) rfl (by kernel_rfl) (fun _ _ _ h => h) (by rfl) ?hy30 hS0 ?_
 case hy30 => (intro w' hw'; go_simp; try with_reducible rfl)
 simp only [rgn.l1, rgn.l2, rgn.l3, Act.put, rgn.l4, rgn.l5, rgn.l6]
 refine rgn.tl (i := 6) (v := ?v31) rfl (by kernel_rfl) (fun _ _ _ h => h) (by rfl) ?hy31 hS0 ?_
 case hy31 => (intro w' hw'; go_simp; try with_reducible rfl)
 simp only [rgn.l1, rgn.l2, rgn.l3, Act.put, rgn.l4, rgn.l5, rgn.l6]
 refine rgn.tl (i := 7) (v := ?v32) rfl (by kernel_rfl) (fun _ _ _ h => h) (by rfl) ?hy32 hS0 ?_
 case hy32 => (intro w' hw'; go_simp; try with_reducible rfl)
 simp only [rgn.l1, rgn.l2, rgn.l3, Act.put, rgn.l4, rgn.l5, rgn.l6]
 refine rgn.tl (i := 8) (v := ?v33) rfl (by kernel_rfl) (fun _ _ _ h => h) (by rfl) ?hy33 hS0 ?_
 case hy33 => (intro w' hw'; go_simp; try with_reducible rfl)
 simp only [rgn.l1, rgn.l2, rgn.l3, Act.put, rgn.l4, rgn.l5, rgn.l6]
 refine rgn.tl (i := 9) (v := ?v34) rfl (by kernel_rfl) (fun _ _ _ h => h) (by rfl) ?hy34 hS0 ?_
 case hy34 => (intro w' hw'; have g1' := (hw'.cell (p := ⟨b', 1, none⟩) hb').trans g1; go_simp; try with_reducible rfl)
 simp only [rgn.l1, rgn.l2, rgn.l3, Act.put, rgn.l4, rgn.l5, rgn.l6]
 refine rgn.tl (i := 10) (v := ?v35) rfl (by kernel_rfl) (fun _ _ _ h => h) (by rfl) ?hy35 hS0 ?_
 case hy35 => (intro w' hw'; go_simp; try with_reducible rfl)
 simp only [rgn.l1, rgn.l2, rgn.l3, Act.put, rgn.l4, rgn.l5, rgn.l6]
 refine rgn.tl (i := 11) (v := ?v36) rfl (by kernel_rfl) (fun _ _ _ h => h) (by rfl) ?hy36 hS0 ?_
 case hy36 => (intro w' hw'; go_simp; try with_reducible rfl)
 simp only [rgn.l1, rgn.l2, rgn.l3, Act.put, rgn.l4, rgn.l5, rgn.l6]
 refine wpAnyH_done (by kernel_rfl) ?_ _; refine NoPanic.normal ?_
 have hS1 : Below w.heap.size w { w with drawn := w.drawn + 1 + 1 + 1 + 1 } := hS0.drew
 clear hS0
 have hS0 := hS1
 clear hS1
 go_wp2_with fail
 refine wp_region_noPanic ?_
 refine wp_region_held (S := fun w' => Below w.heap.size w w') mixed ?_
 refine rgn.tl (i := 0) (v := ?v37) rfl (by kernel_rfl) (fun _ _ _ h => h) (by rfl) ?hy37 hS0 ?_
 case hy37 => (intro w' hw'; go_simp; try with_reducible rfl)
 simp only [rgn.l1, rgn.l2, rgn.l3, Act.put, rgn.l4, rgn.l5, rgn.l6]
 refine rgn.tl (i := 1) (v := ?v38) rfl (by kernel_rfl) (fun _ _ _ h => h) (by rfl) ?hy38 hS0 ?_
 case hy38 => (intro w' hw'; go_simp; try with_reducible rfl)
 simp only [rgn.l1, rgn.l2, rgn.l3, Act.put, rgn.l4, rgn.l5, rgn.l6]
 refine rgn.tl (i := 2) (v := ?v39) rfl (by kernel_rfl) (fun _ _ _ h => h) (by rfl) ?hy39 hS0 ?_
 case hy39 => (intro w' hw'; go_simp; try with_reducible rfl)
 simp only [rgn.l1, rgn.l2, rgn.l3, Act.put, rgn.l4, rgn.l5, rgn.l6]
 refine rgn.tl (i := 3) (v := ?v40) rfl (by kernel_rfl) (fun _ _ _ h => h) (by rfl) ?hy40 hS0 ?_
 case hy40 => (intro w' hw'; go_simp; try with_reducible rfl)
 simp only [rgn.l1, rgn.l2, rgn.l3, Act.put, rgn.l4, rgn.l5, rgn.l6]
 refine rgn.tl (i := 4) (v := ?v41) rfl (by kernel_rfl) (fun _ _ _ h => h) (by rfl) ?hy41 hS0 ?_
 case hy41 => (intro w' hw'; have h1' := (hw'.cell (p := ⟨b, 1, none⟩) hb).trans h1; go_simp; try with_reducible rfl)
 simp only [rgn.l1, rgn.l2, rgn.l3, Act.put, rgn.l4, rgn.l5, rgn.l6]
 refine rgn.tl (i := 5) (v := ?v42) rfl (by kernel_rfl) (fun _ _ _ h => h) (by rfl) ?hy42 hS0 ?_
 case hy42 => (intro w' hw'; go_simp; try with_reducible rfl)
 simp only [rgn.l1, rgn.l2, rgn.l3, Act.put, rgn.l4, rgn.l5, rgn.l6]
 refine rgn.tl (i := 6) (v := ?v43) rfl (by kernel_rfl) (fun _ _ _ h => h) (by rfl) ?hy43 hS0 ?_
 case hy43 => (intro w' hw'; go_simp; try with_reducible rfl)
 simp only [rgn.l1, rgn.l2, rgn.l3, Act.put, rgn.l4, rgn.l5, rgn.l6]
 refine rgn.tl (i := 7) (v := ?v44) rfl (by kernel_rfl) (fun _ _ _ h => h) (by rfl) ?hy44 hS0 ?_
 case hy44 => (intro w' hw'; go_simp; try with_reducible rfl)
 simp only [rgn.l1, rgn.l2, rgn.l3, Act.put, rgn.l4, rgn.l5, rgn.l6]
 refine rgn.tl (i := 8) (v := ?v45) rfl (by kernel_rfl) (fun _ _ _ h => h) (by rfl) ?hy45 hS0 ?_
 case hy45 => (intro w' hw'; go_simp; try with_reducible rfl)
 simp only [rgn.l1, rgn.l2, rgn.l3, Act.put, rgn.l4, rgn.l5, rgn.l6]
 refine rgn.tl (i := 9) (v := ?v46) rfl (by kernel_rfl) (fun _ _ _ h => h) (by rfl) ?hy46 hS0 ?_
 case hy46 => (intro w' hw'; have g1' := (hw'.cell (p := ⟨b', 1, none⟩) hb').trans g1; go_simp; try with_reducible rfl)
 simp only [rgn.l1, rgn.l2, rgn.l3, Act.put, rgn.l4, rgn.l5, rgn.l6]
 refine rgn.tl (i := 10) (v := ?v47) rfl (by kernel_rfl) (fun _ _ _ h => h) (by rfl) ?hy47 hS0 ?_
 case hy47 => (intro w' hw'; go_simp; try with_reducible rfl)
 simp only [rgn.l1, rgn.l2, rgn.l3, Act.put, rgn.l4, rgn.l5, rgn.l6]
 refine rgn.tl (i := 11) (v := ?v48) rfl (by kernel_rfl) (fun _ _ _ h => h) (by rfl) ?hy48 hS0 ?_
 case hy48 => (intro w' hw'; go_simp; try with_reducible rfl)
 simp only [rgn.l1, rgn.l2, rgn.l3, Act.put, rgn.l4, rgn.l5, rgn.l6]
 refine wpAnyH_done (by kernel_rfl) ?_ _; refine NoPanic.normal ?_
 have hS1 : Below w.heap.size w { w with drawn := w.drawn + 1 + 1 + 1 + 1 + 1 } := hS0.drew
 clear hS0
 have hS0 := hS1
 clear hS1
 go_wp2_with fail
 rw [rounds_succ]
 go_wp2_with fail
 go_ret
 refine ⟨rfl, ?_⟩
 exact (((Below.refl w.heap.size w).drew).drew).drew.drew
set_option maxRecDepth 4000 in
theorem sameFault_ok (w : World) (k : Int) (a a' : Option Addr) (n n' c c' : Nat) (hP : ∀ W, Below w.heap.size w W → Calls Tryz.prog 27 #[.slice a n c, .slice a' n' c'] W fun e w' => e = .returned (.int .i64 0) ∧ Below W.heap.size W w') :
  Calls Tryz.prog 14 #[.agg #[.int .i64 k, .slice a n c, .slice none 0 0], .agg #[.int .i64 k, .slice a' n' c', .slice none 0 0]] w fun e w' => e = .returned (.bool true) ∧ Below w.heap.size w w' := by
 have HP := hide hP
 have HS := hide steps_nil
 clear hP
 go_enter Tryz.func14, Tryz.ntmps14
 go_wp2_with fail
 have b2 := two_alloc w (Obj.cells #[Value.int .i64 k, .slice a n c, .slice none 0 0] 29) (Obj.cells #[Value.int .i64 k, .slice a' n' c', .slice none 0 0] 29)
 refine ((unhide HP) _ b2).mono ?_
 rintro e w1 ⟨rfl, b1⟩
 have q := two_at w #[Value.int .i64 k, .slice a n c, .slice none 0 0] #[Value.int .i64 k, .slice a' n' c', .slice none 0 0] 29 29
 have q0 := (b1.block w.heap.size (by simp; omega)).trans q.1
 have q1 := (b1.block (w.heap.size + 1) (by simp)).trans q.2
 have d0 : w1.cell? ⟨w.heap.size, 2, none⟩ = some (.slice none 0 0) := (dt.cell_cells q0 2).trans rfl
 have d1 : w1.cell? ⟨w.heap.size + 1, 2, none⟩ = some (.slice none 0 0) := (dt.cell_cells q1 2).trans rfl
 have bw1 := b2.trans (b1.mono b2.size)
 clear q q0 q1
 go_wp2_with fail
 refine ((unhide HS) w1).mono ?_
 rintro e w2 ⟨rfl, rfl⟩
 go_wp2_with fail
 go_ret
 exact ⟨rfl, bw1⟩
theorem first_pure (z : List Int) (hz : mem.Byt z) (d : Int) (hk : (sdocG z d).2.kd ≠ 0) : ∃ (K : Int) (t : Tk) (m : Nat), (sdocG z d).1 = none ∧ (sdocG z d).2.kd = K ∧ (sdocG z d).2.tok = t ∧ (K = 70 ∨ K = 71) ∧ (toks z)[m]? = some t ∧ (∀ q u, (toks z)[q]? = some u → u.ln = t.ln ∧ u.co = t.co → q = m) ∧ t.fr ≤ (chs z).length ∧ t.to ≤ (chs z).length ∧ (t.k = 0 ∨ t.k = 1 → K = 70) ∧
  ((sdocG (cutS (chs z) t.fr) d).2.kd = 0 ∨ (sdocG (cutS (chs z) t.fr) d).2.kd = 70) ∧ (sdocG (cutS (chs z) t.fr) d).2.tok.k = 0 ∧ (toks (cutS (chs z) t.fr))[(sdocG (cutS (chs z) t.fr) d).2.ix]? = some (sdocG (cutS (chs z) t.fr) d).2.tok ∧ (sdocG (cutS (chs z) t.fr) d).2.ix + 1 = (toks (cutS (chs z) t.fr)).length ∧
  (t.k ≠ 0 → t.k ≠ 1 → ∀ tl, (sdocG (behindS (chs z) t.to tl) d).2.kd = K ∧ (sdocG (behindS (chs z) t.to tl) d).2.tok = t) := by
 have hget := sdocG_tok z d
 obtain ⟨h1, h2, h3⟩ := sdoc_head z hz d
 have hkd := (sdocG_stp z d).2
 refine ⟨_, _, (sdocG z d).2.ix, ?_, rfl, rfl, ?_, hget, ?_, (fr_le hget).1, (fr_le hget).2, ?_, h2, h1, sdocG_tok _ d, h3, ?_⟩
 ·cases hr : (sdocG z d).1 with
  | none => rfl
  | some l => exact absurd (sdocG_alive z d l hr).1 hk
 ·rcases hkd with k | k | k
  ·exact absurd k hk
  ·exact .inl k
  ·exact .inr k.1
 ·exact fun q u hu e => toks_at z hu hget e
 ·intro e
  rcases hkd with k | k | k
  ·exact absurd k hk
  ·exact k
  ·rw [k.2] at e; rcases e with e | e <;> exact absurd e (by decide)
 ·intro h0 h1 tl
  exact sdoc_stays z hz tl d h0 h1
theorem behind_byt {z : List Int} (hz : mem.Byt z) (T : Nat) {tl : List Int} (ht : mem.Byt tl) : mem.Byt (cutS (chs z) T ++ [32] ++ tl) := by
 intro x hx
 rcases List.mem_append.1 hx with h | h
 ·rcases List.mem_append.1 h with h | h
  ·exact cut_byt hz T x h
  ·simp at h; subst h; decide
 ·exact ht x h
theorem wpList_append_bsl {P : Program} {ops : Array Oper} {rest : List Oper} {o : Oper} {a : Act} {w w' : World} {Q : Exit → Act → World → Prop} {t : TypeId} {sl x' sl' : Value} (hgd : o.guard = none) (s x : Operand) (ho : o.op = .call { callee := .builtin .append, args := #[s, x], argTypes := #[t, t] }) (hs : a.eval s = sl) (hx : a.eval x = x') (hr : (Builtin.append_ #[t, t] o.type #[sl, x']).run P w = .ok sl' w') (h : wpList P ops Q rest (a.put o.dst sl') w') : wpList P ops Q (o :: rest) a w :=
 wpList_plain hgd fun _ hK => by
  unfold Oper.wp execOp
  simp only [ho, resolve, invoke, builtin, Sem.run_bind, Sem.run_pure, Result.andThen_ok, List.map_toArray, List.map_cons, List.map_nil, hs, hx, hr]
  exact hK _ _ h
theorem info8p : ∃ i0 : TypeInfo, Tryz.prog.info? 5 = some i0 ∧ i0.zero = some (.int .u8 0) ∧ i0.size = 1 ∧ i0.bytes = 1 := by
 obtain ⟨i0, hi, hz0, hz1, hz2⟩ := info_parts mem.info8
 exact ⟨i0, hi, hz0, hz1, hz2⟩
set_option maxHeartbeats 8000000 in
set_option maxRecDepth 4000 in
theorem law_first (a : Option Addr) (n c : Nat) (z : List Int) (d : Int) (a2 : Option Addr) (n2 c2 : Nat) (tl : List Int) (w : World) (h : Row .u8 w a n c z) (hz : mem.Byt z) (hn : n ≤ 1048576) (hd : (Lit.int .i64 d).wf = true) (h2 : Row .u8 w a2 n2 c2 tl) (hz2 : mem.Byt tl) (hn2 : n2 ≤ 1048576) :
  Calls Tryz.prog 3 #[.slice a n c, .int .i64 d, .slice a2 n2 c2] w fun e w' => e = .returned (.bool true) ∧ Below w.heap.size w w' := by
 have hAw := hide (fun W => awake10_ok W)
 have hCo := hide (fun W (bb : Below w.heap.size w W) => copied10_ok a n c z W (h.below bb) (by omega))
 have hPz := hide (fun W g base cap (hb : Bsl W base g n cap z) => parse_ct (some ⟨g, 0, none⟩) n cap z d W hb.row (by omega) hz hd)
 have hTk := hide (fun W g base cap (hb : Bsl W base g n cap z) => lx.tokensG_ok (some ⟨g, 0, none⟩) n cap z W hb.row (by omega) hz)
 have hBt := hide (fun W (T : Nat) (hT : T ≤ (chs z).length) (bb : Below w.heap.size w W) => bytesTo_ok a n c z T W (h.below bb) hz (by omega) hT)
 have hJk := hide (fun W (bb : Below w.heap.size w W) => h2.below bb)
 have hFP := hide (first_pure z hz d)
 have hAL := hide (sdocG_alive z d)
 have hFA := hide (sdocG_faults z d)
 have hzl := h.len
 have hjl := h2.len
 have hcl := hide (fun T => cut_len hz T)
 have hcb := hide (fun T => cut_byt hz T)
 have hbb := hide (fun T => behind_byt hz T hz2)
 have htl := toks_len z hz
 rw [hzl] at htl
 clear h h2 hz hz2
 go_enter Tryz.func3, Tryz.ntmps3
 go_wp2_with fail
 refine ((unhide hAw) _).mono ?_
 rintro e w1 ⟨rfl, b1⟩
 clear hAw
 have hc1 := hide ((unhide hCo) w1 b1)
 go_wp2_with fail
 refine (unhide hc1).mono ?_
 rintro e w2 ⟨rfl, hb2, b2⟩
 have bw2 := b1.trans (b2.mono b1.size)
 have hp2 := hide ((unhide hPz) w2 _ _ _ hb2)
 clear hc1 hb2 b1 b2
 go_wp2_with fail
 refine (unhide hp2).mono ?_
 rintro e w3 ⟨r, C, a3, n3, c3, F3, fs, hq, rfl, hsh, hfl, b3⟩
 have bw3 := bw2.trans (b3.mono bw2.size)
 have q1 : (sdocG z d).1 = r := congrArg Prod.fst hq
 have q2 : (sdocG z d).2 = C := congrArg Prod.snd hq
 clear hq hp2 bw2 b3
 by_cases hk : C.kd = 0
 ·-- it is read
  have hl3 : 0 < n3 := by
   cases r with
   | none => exact absurd (q2 ▸ hk) ((unhide hFA) q1)
   | some l =>
    have h1 := (unhide hAL) l q1
    have h2 := hsh.len
    have h3 : l.length ≠ 0 := fun e => h1.2 (List.eq_nil_of_length_eq_zero e)
    simp at h2
    omega
  have hl3i : (0 : Int) < (n3 : Int) := by omega
  unfold FltAt at hfl
  rw [if_pos hk] at hfl
  subst hfl
  have hb := hide bw3
  clear q1 q2 hk hsh bw3 hFP hAL hFA hCo hPz hTk hBt hJk hcl hcb hbb hl3
  go_wp2_with fail
  go_ret
  exact ⟨rfl, (unhide hb).alloc (unhide hb).size _⟩
 ·obtain ⟨K, t, m, e0, e1, e2, hK, hm, hun, hfr, hto, hK70, hh1, hh2, hh3, hh4, hst⟩ := (unhide hFP) (by rw [q2]; exact hk)
  rw [q2] at e1 e2
  rw [e0] at q1
  subst q1
  have hn3 : n3 = 0 := by have := hsh.len; simpa using this
  subst hn3
  unfold FltAt at hfl
  rw [if_neg hk, e1, e2] at hfl
  obtain ⟨b, y1, y2, rfl, y4, y5⟩ := hfl
  have HS := hide (And.intro hm (And.intro hun (And.intro hK70 (And.intro hh1 (And.intro hh2 (And.intro hh3 (And.intro hh4 hst)))))))
  obtain ⟨X, hX⟩ : ∃ X, X = w3.alloc (.cells #[.int .i64 K, .slice (some ⟨b, 0, none⟩) 1 1, .slice none 0 0] 29) := ⟨_, rfl⟩
  have bX : Below w3.heap.size w3 X := by rw [hX]; exact (Below.refl _ _).alloc (Nat.le_refl _) _
  have gX : X.heap[w3.heap.size]? = some (.cells #[.int .i64 K, .slice (some ⟨b, 0, none⟩) 1 1, .slice none 0 0] 29 (0, 0)) := by rw [hX]; exact heap_alloc_new _ _
  have zX : w3.heap.size + 1 ≤ X.heap.size := by rw [hX]; simp
  have p0 : X.cell? ⟨b, 0, none⟩ = some (.int .i64 t.ln) := (bX.cell (p := ⟨b, 0, none⟩) y2).trans y4
  have p1 : X.cell? ⟨b, 1, none⟩ = some (.int .i64 t.co) := (bX.cell (p := ⟨b, 1, none⟩) y2).trans y5
  have bwX := bw3.trans (bX.mono bw3.size)
  have sX := bwX.size
  have hK0 : (K == 0) = false := by rcases hK with e | e <;> rw [e] <;> rfl
  have hG : ((K != 70) && (K != 71)) = false := by rcases hK with e | e <;> rw [e] <;> rfl
  have HX := hide hX
  have hcX := hide ((unhide hCo) X bwX)
  have HB := hide (And.intro gX (And.intro p0 (And.intro p1 bwX)))
  clear hFP hAL hFA q2 e0 e1 e2 hm hun hK70 hh1 hh2 hh3 hh4 hst hsh bw3 bX y4 y5 hX hk gX p0 p1 bwX hCo
  rcases hK with hK' | hK'
  ·subst hK'
   clear hK0 hG
   go_wp2_with fail
   rw [← unhide HX]
   clear HX
   obtain ⟨gX, p0, p1, bwX⟩ := unhide HB
   refine (unhide hcX).mono ?_
   rintro e w4 ⟨rfl, hb4, b4⟩
   have ht4 := hide ((unhide hTk) w4 _ _ _ hb4)
   clear hcX hb4
   go_wp2_with fail
   refine (unhide ht4).mono ?_
   rintro e w5 ⟨p, cp, rfl, hp0, hp1, hrows, b5⟩
   clear ht4
   have b45 := b4.trans (b5.mono b4.size)
   have s45 := b45.size
   have bw5 := bwX.trans (b45.mono bwX.size)
   have g5 := (b45.block w3.heap.size (by omega)).trans gX
   have r0 := (b45.cell (p := ⟨b, 0, none⟩) (show b < X.heap.size by omega)).trans p0
   have r1 := (b45.cell (p := ⟨b, 1, none⟩) (show b < X.heap.size by omega)).trans p1
   have f1 : w5.cell? ⟨w3.heap.size, 1, none⟩ = some (.slice (some ⟨b, 0, none⟩) 1 1) := (dt.cell_cells g5 1).trans rfl
   obtain ⟨hm, hun, hK70, hh1, hh2, hh3, hh4, hst⟩ := unhide HS
   have hto5 := hide (token10_ok p (toks z).length cp (toks z) m t w5 rfl (by omega) hp1 hrows hm hun)
   have hml : m < (toks z).length := (List.getElem?_eq_some_iff.1 hm).1
   have hrow7 := hrows m t hm
   have HR := hide (And.intro hrow7 (And.intro g5 (And.intro r0 (And.intro r1 bw5))))
   have HS2 := hide (And.intro hK70 (And.intro hh1 (And.intro hh2 (And.intro hh3 (And.intro hh4 hst)))))
   obtain ⟨nt, hnt⟩ : ∃ nt, nt = (toks z).length := ⟨_, rfl⟩
   rw [← hnt] at hto5 hml ⊢
   clear HS HB gX p0 p1 bwX b4 b5 b45 g5 bw5 hrows hm hun hK70 hh1 hh2 hh3 hh4 hst hrow7 hnt hp0
   go_wp2_with fail
   refine (unhide hto5).mono ?_
   rintro e w6 ⟨rfl, b6⟩
   clear hto5 r0 r1 f1
   obtain ⟨hrow7, g5, r0, r1, bw5⟩ := unhide HR
   have s6 := b6.size
   have g6 := (b6.block w3.heap.size (by omega)).trans g5
   have r0 := (b6.cell (p := ⟨b, 0, none⟩) (show b < w5.heap.size by omega)).trans r0
   have r1 := (b6.cell (p := ⟨b, 1, none⟩) (show b < w5.heap.size by omega)).trans r1
   have bw6 := bw5.trans (b6.mono bw5.size)
   unfold Tk.cells at hrow7
   have hc := fun (q : Nat) (v : Value) hv => (b6.cell (p := ⟨p, m * 7 + q, none⟩) (show p < w5.heap.size by omega)).trans (hrow7 q v hv)
   have m0 : w6.cell? ⟨p, m * 7, none⟩ = some (.int .i64 t.k) := hc 0 _ rfl
   have m3 : w6.cell? ⟨p, m * 7 + 3, none⟩ = some (.int .i64 t.fr) := hc 3 _ rfl
   have m4 : w6.cell? ⟨p, m * 7 + 4, none⟩ = some (.int .i64 t.to) := hc 4 _ rfl
   have mi : (m : Int) < (nt : Int) := by omega
   have mn : ¬ ((m : Int) < 0) := by omega
   have hbt := hide ((unhide hBt) w6 t.fr hfr bw6)
   have HR2 := hide (And.intro m0 (And.intro m4 (And.intro g6 (And.intro r0 (And.intro r1 bw6)))))
   clear HR hrow7 g5 bw5 b6 hc m0 m4 g6 r0 r1 bw6
   go_wp2_with fail
   refine (unhide hbt).mono ?_
   rintro e w7 ⟨g7, cap7, rfl, hb7, b7⟩
   clear hbt m3
   have hl7 := (unhide hcl) t.fr
   have hp7 := hide (parse_ct (some ⟨g7, 0, none⟩) _ cap7 (cutS (chs z) t.fr) d w7 hb7.row (by omega) ((unhide hcb) t.fr) hd)
   have htk7 := hide (fun W (bb : Below w7.heap.size w7 W) => lx.tokensG_ok (some ⟨g7, 0, none⟩) _ cap7 (cutS (chs z) t.fr) W (hb7.row.below bb) (by omega) ((unhide hcb) t.fr))
   have hth := toks_len (cutS (chs z) t.fr) ((unhide hcb) t.fr)
   obtain ⟨hK70, hh1, hh2, hh3, hh4, hst⟩ := unhide HS2
   obtain ⟨C2, hC2⟩ : ∃ C2, C2 = (sdocG (cutS (chs z) t.fr) d).2 := ⟨_, rfl⟩
   have hC2' := hide (show (sdocS (newG (cutS (chs z) t.fr) d)).2 = C2 from hC2.symm)
   rw [← hC2] at hh1 hh2 hh3 hh4
   obtain ⟨TS, hTS⟩ : ∃ TS, TS = toks (cutS (chs z) t.fr) := ⟨_, rfl⟩
   rw [← hTS] at htk7 hth hh3 hh4
   obtain ⟨CL, hCL⟩ : ∃ CL, CL = (cutS (chs z) t.fr).length := ⟨_, rfl⟩
   rw [← hCL] at hp7 htk7 hl7 hth ⊢
   have HH := hide (And.intro hh1 (And.intro hh2 (And.intro hh3 (And.intro hh4 hth))))
   have HST := hide (And.intro hK70 hst)
   clear HS2 hK70 hh1 hh2 hh3 hh4 hst hb7 hC2 hTS hCL hth
   go_wp2_with fail
   refine (unhide hp7).mono ?_
   rintro e w8 ⟨r8, C8, a8, n8, c8, F8, fs8, hq8, rfl, hsh8, hfl8, b8⟩
   obtain rfl : C8 = C2 := (congrArg Prod.snd hq8).symm.trans (unhide hC2')
   clear hp7 hq8 hsh8 hC2'
   obtain ⟨m0, m4, g6, r0, r1, bw6⟩ := unhide HR2
   have b78 := b7.trans (b8.mono b7.size)
   have s78 := b78.size
   have s7 := b7.size
   have bw8 := bw6.trans (b78.mono bw6.size)
   obtain ⟨hh1, hh2, hh3, hh4, hth⟩ := unhide HH
   have tailFact : True := trivial
   by_cases hk8 : C8.kd = 0
   ·unfold FltAt at hfl8
    rw [if_pos hk8] at hfl8
    subst hfl8
    obtain ⟨W9, hW9⟩ : ∃ W9, W9 = w8.alloc (.cells #[.int .i64 0, .slice none 0 0, .slice none 0 0] 29) := ⟨_, rfl⟩
    have b9 : Below w8.heap.size w8 W9 := by rw [hW9]; exact (Below.refl _ _).alloc (Nat.le_refl _) _
    have z9 : w8.heap.size + 1 ≤ W9.heap.size := by rw [hW9]; simp
    have f9 : W9.heap[w8.heap.size]? = some (.cells #[.int .i64 0, .slice none 0 0, .slice none 0 0] 29 (0, 0)) := by rw [hW9]; exact heap_alloc_new _ _
    have b69 := b78.trans (b9.mono b78.size)
    have m0 := (b69.cell (p := ⟨p, m * 7, none⟩) (show p < w6.heap.size by omega)).trans m0
    have m4 := (b69.cell (p := ⟨p, m * 7 + 4, none⟩) (show p < w6.heap.size by omega)).trans m4
    have g9 := (b69.block w3.heap.size (by omega)).trans g6
    have r0 := (b69.cell (p := ⟨b, 0, none⟩) (show b < w6.heap.size by omega)).trans r0
    have r1 := (b69.cell (p := ⟨b, 1, none⟩) (show b < w6.heap.size by omega)).trans r1
    have bw9 := bw6.trans (b69.mono bw6.size)
    have z69 := b69.size
    have HW9 := hide hW9
    clear hh1 hh2 hh3 hh4 hth hk8 htk7 HR2 HH b7 b8 b78 g6 bw6 bw8 b9 b69 hW9
    have k0 : W9.cell? ⟨w3.heap.size, 0, none⟩ = some (.int .i64 70) := (dt.cell_cells g9 0).trans rfl
    have HRR := hide (And.intro g9 (And.intro r0 (And.intro r1 bw9)))
    have hbt2 := hide ((unhide hBt) W9 t.to hto bw9)
    have z9b : b < W9.heap.size := by omega
    have z93 : w3.heap.size < W9.heap.size := by omega
    have hW9 := unhide HW9
    rw [hW9] at m0 m4 k0
    clear g9 r0 r1 bw9 f9 hW9
    obtain ⟨hK70, hst⟩ := unhide HST
    by_cases t0 : t.k = 0
    ·have tk0 : (t.k == 0) = true := by simpa using t0
     have HB9 := hide (unhide HRR).2.2.2
     clear HST hst hK70 hbt2 HRR t0
     go_wp2_with fail
     go_ret
     exact ⟨rfl, by rw [← unhide HW9]; exact unhide HB9⟩
    by_cases t1 : t.k = 1
    ·have tk0 : (t.k == 0) = false := by simpa using t0
     have tk1 : (t.k == 1) = true := by simpa using t1
     have HB9 := hide (unhide HRR).2.2.2
     clear HST hst hK70 hbt2 HRR t1 t0
     go_wp2_with fail
     go_ret
     exact ⟨rfl, by rw [← unhide HW9]; exact unhide HB9⟩
    have tk0 : (t.k == 0) = false := by simpa using t0
    have tk1 : (t.k == 1) = false := by simpa using t1
    have hst2 := hide (hst t0 t1 tl)
    have hCL2 := (unhide hcl) t.to
    have hbb2 := hide ((unhide hbb) t.to)
    obtain ⟨CZ, hCZ⟩ : ∃ CZ, CZ = cutS (chs z) t.to := ⟨_, rfl⟩
    rw [← hCZ] at hbt2 hCL2 hbb2
    have HCZ := hide (show CZ ++ [32] ++ tl = behindS (chs z) t.to tl from by rw [hCZ]; unfold cutS behindS; simp)
    clear HST hst hK70 t0 t1 hCZ k0
    go_wp2_with fail
    rw [← unhide HW9]
    clear HW9
    refine (unhide hbt2).mono ?_
    rintro e v1 ⟨g1, cap1, rfl, hB1, e1⟩
    obtain ⟨g9, r0, r1, bw9⟩ := unhide HRR
    have s1 := e1.size
    have bv1 := bw9.trans (e1.mono bw9.size)
    have sv1 := bv1.size
    obtain ⟨i0, hi8, hz8, hs8, hy8⟩ := info8p
    have hrow32 : Row .u8 (v1.alloc (.cells #[.int .u8 32] 5)) (some ⟨v1.heap.size, 0, none⟩) 1 1 [32] := row_newS v1 [32] 5 (0, 0)
    have eA : Below v1.heap.size v1 (v1.alloc (.cells #[.int .u8 32] 5)) := (Below.refl _ _).alloc (Nat.le_refl _) _
    obtain ⟨g2, cap2, v3, hr3, hB3, e3⟩ := append_run (P := Tryz.prog) (t := 22) 22 Tryz.underlying22 hi8 hz8 hs8 hy8 rfl (hB1.below eA) hrow32 (by omega) (by have := eA.size; omega)
    have e13 := (eA.mono (show W9.heap.size ≤ v1.heap.size by omega)).trans e3
    have e03 := e1.trans e13
    have bv3 := bw9.trans (e03.mono bw9.size)
    have sv3 := e13.size
    obtain ⟨g4, cap4, v4, hr4, hB4, e4⟩ := append_run (P := Tryz.prog) (t := 22) 22 Tryz.underlying22 hi8 hz8 hs8 hy8 rfl hB3 ((unhide hJk) v3 bv3) (by omega) (by have := e3.size; have := eA.size; omega)
    have e04 := e03.trans e4
    have HR3 := hide hr3
    have HR4 := hide hr4
    have hp4 := hide (parse_ct (some ⟨g4, 0, none⟩) _ cap4 (CZ ++ [32] ++ tl) d v4 hB4.row (by omega) (unhide hbb2) hd)
    rw [unhide HCZ] at hp4
    have hq5 := unhide hst2
    have g4' := (e04.block w3.heap.size (by omega)).trans g9
    have r0 := (e04.cell (p := ⟨b, 0, none⟩) z9b).trans r0
    have r1 := (e04.cell (p := ⟨b, 1, none⟩) z9b).trans r1
    have bv4 := bw9.trans (e04.mono bw9.size)
    have z4 := e04.size
    have HQ := hide (And.intro hq5 (And.intro g4' (And.intro r0 (And.intro r1 bv4))))
    clear hbt2 HRR g9 bw9 e1 bv1 hrow32 eA hr3 e3 e13 e03 bv3 hr4 e4 e04 hst2 hB1 hB3 hB4 g4' r0 r1 bv4 hq5 hbb2 HCZ
    go_wp2_with (first
     | (at_builtin; refine wpList_append_bsl (by rfl) (.tmp 160) (.tmp 161) (by rfl) (by rfl) (by rfl) (unhide HR3) ?_)
     | (at_builtin; refine wpList_append_bsl (by rfl) (.tmp 164) (.tmp 165) (by rfl) (by rfl) (by rfl) (unhide HR4) ?_))
    refine (unhide hp4).mono ?_
    rintro e v5 ⟨r5, C5, a5, n5, c5, F5, fs5, hq, rfl, hsh5, hfl5, e5⟩
    obtain ⟨hq5, g4', r0, r1, bv4⟩ := unhide HQ
    have hC5 : (sdocG (behindS (chs z) t.to tl) d).2 = C5 := congrArg Prod.snd hq
    rw [hC5] at hq5
    unfold FltAt at hfl5
    rw [if_neg (by rw [hq5.1]; decide), hq5.1, hq5.2] at hfl5
    obtain ⟨b5, y1, y25, rfl, y45, y55⟩ := hfl5
    have s5 := e5.size
    have eB := fun o => show Below v5.heap.size v5 (v5.alloc o) from (Below.refl _ _).alloc (Nat.le_refl _) _
    have g5 := (e5.block w3.heap.size (by omega)).trans g4'
    have k5 : ∀ o, (v5.alloc o).heap[w3.heap.size]? = some (.cells #[.int .i64 70, .slice (some ⟨b, 0, none⟩) 1 1, .slice none 0 0] 29 (0, 0)) := fun o => ((eB o).block w3.heap.size (by omega)).trans g5
    have j0 : ∀ o, (v5.alloc o).cell? ⟨w3.heap.size, 0, none⟩ = some (.int .i64 70) := fun o => (dt.cell_cells (k5 o) 0).trans rfl
    have j1 : ∀ o, (v5.alloc o).cell? ⟨w3.heap.size, 1, none⟩ = some (.slice (some ⟨b, 0, none⟩) 1 1) := fun o => (dt.cell_cells (k5 o) 1).trans rfl
    have j2 : ∀ o, (v5.alloc o).cell? ⟨w3.heap.size, 2, none⟩ = some (.slice none 0 0) := fun o => (dt.cell_cells (k5 o) 2).trans rfl
    have hSF := hide (fun o => sameFault_ok (v5.alloc o) 70 (some ⟨b, 0, none⟩) (some ⟨b5, 0, none⟩) 1 1 1 1 (fun W bb => by
     have x0 := ((e5.trans ((eB o).mono e5.size)).cell (p := ⟨b, 0, none⟩) (show b < v4.heap.size by omega)).trans r0
     have x1 := ((e5.trans ((eB o).mono e5.size)).cell (p := ⟨b, 1, none⟩) (show b < v4.heap.size by omega)).trans r1
     have y0 := ((eB o).cell (p := ⟨b5, 0, none⟩) y25).trans y45
     have y1 := ((eB o).cell (p := ⟨b5, 1, none⟩) y25).trans y55
     have zo : v5.heap.size + 1 = (v5.alloc o).heap.size := by simp
     have zb := bb.size
     exact pos_one W b b5 t.ln t.co ((bb.cell (p := ⟨b, 0, none⟩) (show b < (v5.alloc o).heap.size by omega)).trans x0) ((bb.cell (p := ⟨b, 1, none⟩) (show b < (v5.alloc o).heap.size by omega)).trans x1) ((bb.cell (p := ⟨b5, 0, none⟩) (show b5 < (v5.alloc o).heap.size by omega)).trans y0) ((bb.cell (p := ⟨b5, 1, none⟩) (show b5 < (v5.alloc o).heap.size by omega)).trans y1) (by omega) (by omega)))
    have bv5 := bv4.trans (e5.mono bv4.size)
    have HB5 := hide (And.intro bv5 eB)
    clear hq hsh5 hC5 hq5 g4' r0 r1 bv4 e5 eB g5 k5 bv5 y45 y55 hp4 HQ HR3 HR4
    go_wp2_with fail
    refine ((unhide hSF) _).mono ?_
    rintro e v6 ⟨rfl, e6⟩
    clear hSF j0 j1 j2
    go_wp2_with fail
    go_ret
    obtain ⟨bv5, eB⟩ := unhide HB5
    have e56 := (eB _).trans (e6.mono (eB _).size)
    exact ⟨rfl, bv5.trans (e56.mono bv5.size)⟩
   ·have hk70 : C8.kd = 70 := by rcases hh1 with e | e; exact absurd e hk8; exact e
    unfold FltAt at hfl8
    rw [if_neg hk8, hk70] at hfl8
    obtain ⟨b2, y1', y2', rfl, y4', y5'⟩ := hfl8
    obtain ⟨W9, hW9⟩ : ∃ W9, W9 = w8.alloc (.cells #[.int .i64 70, .slice (some ⟨b2, 0, none⟩) 1 1, .slice none 0 0] 29) := ⟨_, rfl⟩
    have b9 : Below w8.heap.size w8 W9 := by rw [hW9]; exact (Below.refl _ _).alloc (Nat.le_refl _) _
    have z9 : w8.heap.size + 1 ≤ W9.heap.size := by rw [hW9]; simp
    have f9 : W9.heap[w8.heap.size]? = some (.cells #[.int .i64 70, .slice (some ⟨b2, 0, none⟩) 1 1, .slice none 0 0] 29 (0, 0)) := by rw [hW9]; exact heap_alloc_new _ _
    have v0 : W9.cell? ⟨b2, 0, none⟩ = some (.int .i64 C8.tok.ln) := (b9.cell (p := ⟨b2, 0, none⟩) y2').trans y4'
    have v1 : W9.cell? ⟨b2, 1, none⟩ = some (.int .i64 C8.tok.co) := (b9.cell (p := ⟨b2, 1, none⟩) y2').trans y5'
    have b69 := b78.trans (b9.mono b78.size)
    have b79 := b8.trans (b9.mono b8.size)
    have z69 := b69.size
    have ht9 := hide ((unhide htk7) W9 b79)
    have HW9 := hide hW9
    have d0 : W9.cell? ⟨w8.heap.size, 0, none⟩ = some (.int .i64 70) := (dt.cell_cells f9 0).trans rfl
    have HV := hide (And.intro f9 (And.intro v0 (And.intro v1 b69)))
    have HM := hide (And.intro m0 (And.intro m4 (And.intro g6 (And.intro r0 (And.intro r1 bw6)))))
    have HHH := hide (And.intro hh2 (And.intro hh3 (And.intro hh4 hth)))
    obtain ⟨nt2, hnt2⟩ : ∃ nt2, nt2 = TS.length := ⟨_, rfl⟩
    rw [← hnt2] at ht9
    clear hh1 hh2 hh3 hh4 hth hk8 hk70 htk7 HR2 HH b7 b8 b78 b79 g6 bw6 bw8 b9 b69 hW9 v0 v1 f9 m0 m4 r0 r1 y4' y5'
    go_wp2_with fail
    rw [← unhide HW9]
    clear HW9 d0
    refine (unhide ht9).mono ?_
    rintro e w10 ⟨p2, cp2, rfl, hp20, hp21, hrows2, b10⟩
    clear ht9
    obtain ⟨f9, v0, v1, b69⟩ := unhide HV
    obtain ⟨m0, m4, g6, r0, r1, bw6⟩ := unhide HM
    obtain ⟨hh2, hh3, hh4, hth⟩ := unhide HHH
    obtain ⟨t2, ht2⟩ : ∃ t2, t2 = C8.tok := ⟨_, rfl⟩
    rw [← ht2] at hh2 hh3 v0 v1
    have s10 := b10.size
    have b610 := b69.trans (b10.mono b69.size)
    have f10 := (b10.block w8.heap.size (by omega)).trans f9
    have v0 := (b10.cell (p := ⟨b2, 0, none⟩) (show b2 < W9.heap.size by omega)).trans v0
    have v1 := (b10.cell (p := ⟨b2, 1, none⟩) (show b2 < W9.heap.size by omega)).trans v1
    have d0 : w10.cell? ⟨w8.heap.size, 0, none⟩ = some (.int .i64 70) := (dt.cell_cells f10 0).trans rfl
    have d1 : w10.cell? ⟨w8.heap.size, 1, none⟩ = some (.slice (some ⟨b2, 0, none⟩) 1 1) := (dt.cell_cells f10 1).trans rfl
    have hrw := hrows2 _ t2 hh3
    unfold Tk.cells at hrw
    obtain ⟨j, hj⟩ : ∃ j, j = C8.ix := ⟨_, rfl⟩
    rw [← hj] at hh4 hrw
    have l0 : w10.cell? ⟨p2, j * 7, none⟩ = some (.int .i64 t2.k) := hrw 0 _ rfl
    have l1 : w10.cell? ⟨p2, j * 7 + 1, none⟩ = some (.int .i64 t2.ln) := hrw 1 _ rfl
    have l2 : w10.cell? ⟨p2, j * 7 + 2, none⟩ = some (.int .i64 t2.co) := hrw 2 _ rfl
    rw [hh2] at l0
    have hj1 : ((nt2 : Int) - 1) = (j : Int) := by omega
    have jn : (j : Int) < (nt2 : Int) := by omega
    have hj2 : ((nt2 : Int) == 0) = false := by rw [beq_eq_false_iff_ne]; omega
    have hj3 : ¬ ((nt2 : Int) = 0) := by omega
    have hj4 : ¬ (nt2 = 0) := by omega
    have jl : nt2 ≤ 1048578 := by omega
    have HV := hide (And.intro m0 (And.intro m4 (And.intro g6 (And.intro r0 (And.intro r1 (And.intro bw6 b610))))))
    clear HM HHH f9 f10 m0 m4 g6 r0 r1 bw6 b69 b10 hrows2 hrw hh2 hh3 hth ht2 hj hnt2 hh4
    go_wp2_with fail
    go_quiet (fail)
    obtain ⟨W9, hW9⟩ : ∃ W9, W9 = w10.drewN nq := ⟨_, rfl⟩
    have bQ : Below w10.heap.size w10 W9 := by rw [hW9]; exact Go.below_drewN (Below.refl _ _) nq
    rw [← hW9]
    clear hW9 d0 d1 v0 v1 l0 l1 l2 hj1 jn hj2 hj3 hj4 jl
    obtain ⟨m0, m4, g6, r0, r1, bw6, b610⟩ := unhide HV
    have bA := b610.trans (bQ.mono b610.size)
    have m0 := (bA.cell (p := ⟨p, m * 7, none⟩) (show p < w6.heap.size by omega)).trans m0
    have m4 := (bA.cell (p := ⟨p, m * 7 + 4, none⟩) (show p < w6.heap.size by omega)).trans m4
    have g9 := (bA.block w3.heap.size (by omega)).trans g6
    have r0 := (bA.cell (p := ⟨b, 0, none⟩) (show b < w6.heap.size by omega)).trans r0
    have r1 := (bA.cell (p := ⟨b, 1, none⟩) (show b < w6.heap.size by omega)).trans r1
    have bw9 := bw6.trans (bA.mono bw6.size)
    have zA := bA.size
    have k0 : W9.cell? ⟨w3.heap.size, 0, none⟩ = some (.int .i64 70) := (dt.cell_cells g9 0).trans rfl
    have HRR := hide (And.intro g9 (And.intro r0 (And.intro r1 bw9)))
    have hbt2 := hide ((unhide hBt) W9 t.to hto bw9)
    have z9b : b < W9.heap.size := by omega
    have z93 : w3.heap.size < W9.heap.size := by omega
    clear g9 r0 r1 bw9 HV g6 bw6 b610 bA bQ
    obtain ⟨hK70, hst⟩ := unhide HST
    by_cases t0 : t.k = 0
    ·have tk0 : (t.k == 0) = true := by simpa using t0
     have HB9 := hide (unhide HRR).2.2.2
     clear HST hst hK70 hbt2 HRR t0
     go_wp2_with fail
     go_ret
     exact ⟨rfl, unhide HB9⟩
    by_cases t1 : t.k = 1
    ·have tk0 : (t.k == 0) = false := by simpa using t0
     have tk1 : (t.k == 1) = true := by simpa using t1
     have HB9 := hide (unhide HRR).2.2.2
     clear HST hst hK70 hbt2 HRR t1 t0
     go_wp2_with fail
     go_ret
     exact ⟨rfl, unhide HB9⟩
    have tk0 : (t.k == 0) = false := by simpa using t0
    have tk1 : (t.k == 1) = false := by simpa using t1
    have hst2 := hide (hst t0 t1 tl)
    have hCL2 := (unhide hcl) t.to
    have hbb2 := hide ((unhide hbb) t.to)
    obtain ⟨CZ, hCZ⟩ : ∃ CZ, CZ = cutS (chs z) t.to := ⟨_, rfl⟩
    rw [← hCZ] at hbt2 hCL2 hbb2
    have HCZ := hide (show CZ ++ [32] ++ tl = behindS (chs z) t.to tl from by rw [hCZ]; unfold cutS behindS; simp)
    clear HST hst hK70 t0 t1 hCZ k0
    go_wp2_with fail
    skip
    refine (unhide hbt2).mono ?_
    rintro e v1 ⟨g1, cap1, rfl, hB1, e1⟩
    obtain ⟨g9, r0, r1, bw9⟩ := unhide HRR
    have s1 := e1.size
    have bv1 := bw9.trans (e1.mono bw9.size)
    have sv1 := bv1.size
    obtain ⟨i0, hi8, hz8, hs8, hy8⟩ := info8p
    have hrow32 : Row .u8 (v1.alloc (.cells #[.int .u8 32] 5)) (some ⟨v1.heap.size, 0, none⟩) 1 1 [32] := row_newS v1 [32] 5 (0, 0)
    have eA : Below v1.heap.size v1 (v1.alloc (.cells #[.int .u8 32] 5)) := (Below.refl _ _).alloc (Nat.le_refl _) _
    obtain ⟨g2, cap2, v3, hr3, hB3, e3⟩ := append_run (P := Tryz.prog) (t := 22) 22 Tryz.underlying22 hi8 hz8 hs8 hy8 rfl (hB1.below eA) hrow32 (by omega) (by have := eA.size; omega)
    have e13 := (eA.mono (show W9.heap.size ≤ v1.heap.size by omega)).trans e3
    have e03 := e1.trans e13
    have bv3 := bw9.trans (e03.mono bw9.size)
    have sv3 := e13.size
    obtain ⟨g4, cap4, v4, hr4, hB4, e4⟩ := append_run (P := Tryz.prog) (t := 22) 22 Tryz.underlying22 hi8 hz8 hs8 hy8 rfl hB3 ((unhide hJk) v3 bv3) (by omega) (by have := e3.size; have := eA.size; omega)
    have e04 := e03.trans e4
    have HR3 := hide hr3
    have HR4 := hide hr4
    have hp4 := hide (parse_ct (some ⟨g4, 0, none⟩) _ cap4 (CZ ++ [32] ++ tl) d v4 hB4.row (by omega) (unhide hbb2) hd)
    rw [unhide HCZ] at hp4
    have hq5 := unhide hst2
    have g4' := (e04.block w3.heap.size (by omega)).trans g9
    have r0 := (e04.cell (p := ⟨b, 0, none⟩) z9b).trans r0
    have r1 := (e04.cell (p := ⟨b, 1, none⟩) z9b).trans r1
    have bv4 := bw9.trans (e04.mono bw9.size)
    have z4 := e04.size
    have HQ := hide (And.intro hq5 (And.intro g4' (And.intro r0 (And.intro r1 bv4))))
    clear hbt2 HRR g9 bw9 e1 bv1 hrow32 eA hr3 e3 e13 e03 bv3 hr4 e4 e04 hst2 hB1 hB3 hB4 g4' r0 r1 bv4 hq5 hbb2 HCZ
    go_wp2_with (first
     | (at_builtin; refine wpList_append_bsl (by rfl) (.tmp 160) (.tmp 161) (by rfl) (by rfl) (by rfl) (unhide HR3) ?_)
     | (at_builtin; refine wpList_append_bsl (by rfl) (.tmp 164) (.tmp 165) (by rfl) (by rfl) (by rfl) (unhide HR4) ?_))
    refine (unhide hp4).mono ?_
    rintro e v5 ⟨r5, C5, a5, n5, c5, F5, fs5, hq, rfl, hsh5, hfl5, e5⟩
    obtain ⟨hq5, g4', r0, r1, bv4⟩ := unhide HQ
    have hC5 : (sdocG (behindS (chs z) t.to tl) d).2 = C5 := congrArg Prod.snd hq
    rw [hC5] at hq5
    unfold FltAt at hfl5
    rw [if_neg (by rw [hq5.1]; decide), hq5.1, hq5.2] at hfl5
    obtain ⟨b5, y1, y25, rfl, y45, y55⟩ := hfl5
    have s5 := e5.size
    have eB := fun o => show Below v5.heap.size v5 (v5.alloc o) from (Below.refl _ _).alloc (Nat.le_refl _) _
    have g5 := (e5.block w3.heap.size (by omega)).trans g4'
    have k5 : ∀ o, (v5.alloc o).heap[w3.heap.size]? = some (.cells #[.int .i64 70, .slice (some ⟨b, 0, none⟩) 1 1, .slice none 0 0] 29 (0, 0)) := fun o => ((eB o).block w3.heap.size (by omega)).trans g5
    have j0 : ∀ o, (v5.alloc o).cell? ⟨w3.heap.size, 0, none⟩ = some (.int .i64 70) := fun o => (dt.cell_cells (k5 o) 0).trans rfl
    have j1 : ∀ o, (v5.alloc o).cell? ⟨w3.heap.size, 1, none⟩ = some (.slice (some ⟨b, 0, none⟩) 1 1) := fun o => (dt.cell_cells (k5 o) 1).trans rfl
    have j2 : ∀ o, (v5.alloc o).cell? ⟨w3.heap.size, 2, none⟩ = some (.slice none 0 0) := fun o => (dt.cell_cells (k5 o) 2).trans rfl
    have hSF := hide (fun o => sameFault_ok (v5.alloc o) 70 (some ⟨b, 0, none⟩) (some ⟨b5, 0, none⟩) 1 1 1 1 (fun W bb => by
     have x0 := ((e5.trans ((eB o).mono e5.size)).cell (p := ⟨b, 0, none⟩) (show b < v4.heap.size by omega)).trans r0
     have x1 := ((e5.trans ((eB o).mono e5.size)).cell (p := ⟨b, 1, none⟩) (show b < v4.heap.size by omega)).trans r1
     have y0 := ((eB o).cell (p := ⟨b5, 0, none⟩) y25).trans y45
     have y1 := ((eB o).cell (p := ⟨b5, 1, none⟩) y25).trans y55
     have zo : v5.heap.size + 1 = (v5.alloc o).heap.size := by simp
     have zb := bb.size
     exact pos_one W b b5 t.ln t.co ((bb.cell (p := ⟨b, 0, none⟩) (show b < (v5.alloc o).heap.size by omega)).trans x0) ((bb.cell (p := ⟨b, 1, none⟩) (show b < (v5.alloc o).heap.size by omega)).trans x1) ((bb.cell (p := ⟨b5, 0, none⟩) (show b5 < (v5.alloc o).heap.size by omega)).trans y0) ((bb.cell (p := ⟨b5, 1, none⟩) (show b5 < (v5.alloc o).heap.size by omega)).trans y1) (by omega) (by omega)))
    have bv5 := bv4.trans (e5.mono bv4.size)
    have HB5 := hide (And.intro bv5 eB)
    clear hq hsh5 hC5 hq5 g4' r0 r1 bv4 e5 eB g5 k5 bv5 y45 y55 hp4 HQ HR3 HR4
    go_wp2_with fail
    refine ((unhide hSF) _).mono ?_
    rintro e v6 ⟨rfl, e6⟩
    clear hSF j0 j1 j2
    go_wp2_with fail
    go_ret
    obtain ⟨bv5, eB⟩ := unhide HB5
    have e56 := (eB _).trans (e6.mono (eB _).size)
    exact ⟨rfl, bv5.trans (e56.mono bv5.size)⟩
  ·subst hK'
   clear hK0 hG
   go_wp2_with fail
   rw [← unhide HX]
   clear HX
   obtain ⟨gX, p0, p1, bwX⟩ := unhide HB
   refine (unhide hcX).mono ?_
   rintro e w4 ⟨rfl, hb4, b4⟩
   have ht4 := hide ((unhide hTk) w4 _ _ _ hb4)
   clear hcX hb4
   go_wp2_with fail
   refine (unhide ht4).mono ?_
   rintro e w5 ⟨p, cp, rfl, hp0, hp1, hrows, b5⟩
   clear ht4
   have b45 := b4.trans (b5.mono b4.size)
   have s45 := b45.size
   have bw5 := bwX.trans (b45.mono bwX.size)
   have g5 := (b45.block w3.heap.size (by omega)).trans gX
   have r0 := (b45.cell (p := ⟨b, 0, none⟩) (show b < X.heap.size by omega)).trans p0
   have r1 := (b45.cell (p := ⟨b, 1, none⟩) (show b < X.heap.size by omega)).trans p1
   have f1 : w5.cell? ⟨w3.heap.size, 1, none⟩ = some (.slice (some ⟨b, 0, none⟩) 1 1) := (dt.cell_cells g5 1).trans rfl
   obtain ⟨hm, hun, hK70, hh1, hh2, hh3, hh4, hst⟩ := unhide HS
   have hto5 := hide (token10_ok p (toks z).length cp (toks z) m t w5 rfl (by omega) hp1 hrows hm hun)
   have hml : m < (toks z).length := (List.getElem?_eq_some_iff.1 hm).1
   have hrow7 := hrows m t hm
   have HR := hide (And.intro hrow7 (And.intro g5 (And.intro r0 (And.intro r1 bw5))))
   have HS2 := hide (And.intro hK70 (And.intro hh1 (And.intro hh2 (And.intro hh3 (And.intro hh4 hst)))))
   obtain ⟨nt, hnt⟩ : ∃ nt, nt = (toks z).length := ⟨_, rfl⟩
   rw [← hnt] at hto5 hml ⊢
   clear HS HB gX p0 p1 bwX b4 b5 b45 g5 bw5 hrows hm hun hK70 hh1 hh2 hh3 hh4 hst hrow7 hnt hp0
   go_wp2_with fail
   refine (unhide hto5).mono ?_
   rintro e w6 ⟨rfl, b6⟩
   clear hto5 r0 r1 f1
   obtain ⟨hrow7, g5, r0, r1, bw5⟩ := unhide HR
   have s6 := b6.size
   have g6 := (b6.block w3.heap.size (by omega)).trans g5
   have r0 := (b6.cell (p := ⟨b, 0, none⟩) (show b < w5.heap.size by omega)).trans r0
   have r1 := (b6.cell (p := ⟨b, 1, none⟩) (show b < w5.heap.size by omega)).trans r1
   have bw6 := bw5.trans (b6.mono bw5.size)
   unfold Tk.cells at hrow7
   have hc := fun (q : Nat) (v : Value) hv => (b6.cell (p := ⟨p, m * 7 + q, none⟩) (show p < w5.heap.size by omega)).trans (hrow7 q v hv)
   have m0 : w6.cell? ⟨p, m * 7, none⟩ = some (.int .i64 t.k) := hc 0 _ rfl
   have m3 : w6.cell? ⟨p, m * 7 + 3, none⟩ = some (.int .i64 t.fr) := hc 3 _ rfl
   have m4 : w6.cell? ⟨p, m * 7 + 4, none⟩ = some (.int .i64 t.to) := hc 4 _ rfl
   have mi : (m : Int) < (nt : Int) := by omega
   have mn : ¬ ((m : Int) < 0) := by omega
   have hbt := hide ((unhide hBt) w6 t.fr hfr bw6)
   have HR2 := hide (And.intro m0 (And.intro m4 (And.intro g6 (And.intro r0 (And.intro r1 bw6)))))
   clear HR hrow7 g5 bw5 b6 hc m0 m4 g6 r0 r1 bw6
   go_wp2_with fail
   refine (unhide hbt).mono ?_
   rintro e w7 ⟨g7, cap7, rfl, hb7, b7⟩
   clear hbt m3
   have hl7 := (unhide hcl) t.fr
   have hp7 := hide (parse_ct (some ⟨g7, 0, none⟩) _ cap7 (cutS (chs z) t.fr) d w7 hb7.row (by omega) ((unhide hcb) t.fr) hd)
   have htk7 := hide (fun W (bb : Below w7.heap.size w7 W) => lx.tokensG_ok (some ⟨g7, 0, none⟩) _ cap7 (cutS (chs z) t.fr) W (hb7.row.below bb) (by omega) ((unhide hcb) t.fr))
   have hth := toks_len (cutS (chs z) t.fr) ((unhide hcb) t.fr)
   obtain ⟨hK70, hh1, hh2, hh3, hh4, hst⟩ := unhide HS2
   obtain ⟨C2, hC2⟩ : ∃ C2, C2 = (sdocG (cutS (chs z) t.fr) d).2 := ⟨_, rfl⟩
   have hC2' := hide (show (sdocS (newG (cutS (chs z) t.fr) d)).2 = C2 from hC2.symm)
   rw [← hC2] at hh1 hh2 hh3 hh4
   obtain ⟨TS, hTS⟩ : ∃ TS, TS = toks (cutS (chs z) t.fr) := ⟨_, rfl⟩
   rw [← hTS] at htk7 hth hh3 hh4
   obtain ⟨CL, hCL⟩ : ∃ CL, CL = (cutS (chs z) t.fr).length := ⟨_, rfl⟩
   rw [← hCL] at hp7 htk7 hl7 hth ⊢
   have HH := hide (And.intro hh1 (And.intro hh2 (And.intro hh3 (And.intro hh4 hth))))
   have HST := hide (And.intro hK70 hst)
   clear HS2 hK70 hh1 hh2 hh3 hh4 hst hb7 hC2 hTS hCL hth
   go_wp2_with fail
   refine (unhide hp7).mono ?_
   rintro e w8 ⟨r8, C8, a8, n8, c8, F8, fs8, hq8, rfl, hsh8, hfl8, b8⟩
   obtain rfl : C8 = C2 := (congrArg Prod.snd hq8).symm.trans (unhide hC2')
   clear hp7 hq8 hsh8 hC2'
   obtain ⟨m0, m4, g6, r0, r1, bw6⟩ := unhide HR2
   have b78 := b7.trans (b8.mono b7.size)
   have s78 := b78.size
   have s7 := b7.size
   have bw8 := bw6.trans (b78.mono bw6.size)
   obtain ⟨hh1, hh2, hh3, hh4, hth⟩ := unhide HH
   have tailFact : True := trivial
   by_cases hk8 : C8.kd = 0
   ·unfold FltAt at hfl8
    rw [if_pos hk8] at hfl8
    subst hfl8
    obtain ⟨W9, hW9⟩ : ∃ W9, W9 = w8.alloc (.cells #[.int .i64 0, .slice none 0 0, .slice none 0 0] 29) := ⟨_, rfl⟩
    have b9 : Below w8.heap.size w8 W9 := by rw [hW9]; exact (Below.refl _ _).alloc (Nat.le_refl _) _
    have z9 : w8.heap.size + 1 ≤ W9.heap.size := by rw [hW9]; simp
    have f9 : W9.heap[w8.heap.size]? = some (.cells #[.int .i64 0, .slice none 0 0, .slice none 0 0] 29 (0, 0)) := by rw [hW9]; exact heap_alloc_new _ _
    have b69 := b78.trans (b9.mono b78.size)
    have m0 := (b69.cell (p := ⟨p, m * 7, none⟩) (show p < w6.heap.size by omega)).trans m0
    have m4 := (b69.cell (p := ⟨p, m * 7 + 4, none⟩) (show p < w6.heap.size by omega)).trans m4
    have g9 := (b69.block w3.heap.size (by omega)).trans g6
    have r0 := (b69.cell (p := ⟨b, 0, none⟩) (show b < w6.heap.size by omega)).trans r0
    have r1 := (b69.cell (p := ⟨b, 1, none⟩) (show b < w6.heap.size by omega)).trans r1
    have bw9 := bw6.trans (b69.mono bw6.size)
    have z69 := b69.size
    have HW9 := hide hW9
    clear hh1 hh2 hh3 hh4 hth hk8 htk7 HR2 HH b7 b8 b78 g6 bw6 bw8 b9 b69 hW9
    have k0 : W9.cell? ⟨w3.heap.size, 0, none⟩ = some (.int .i64 71) := (dt.cell_cells g9 0).trans rfl
    have HRR := hide (And.intro g9 (And.intro r0 (And.intro r1 bw9)))
    have hbt2 := hide ((unhide hBt) W9 t.to hto bw9)
    have z9b : b < W9.heap.size := by omega
    have z93 : w3.heap.size < W9.heap.size := by omega
    have hW9 := unhide HW9
    rw [hW9] at m0 m4 k0
    clear g9 r0 r1 bw9 f9 hW9
    obtain ⟨hK70, hst⟩ := unhide HST
    by_cases t0 : t.k = 0
    ·exact absurd (hK70 (.inl t0)) (by decide)
    by_cases t1 : t.k = 1
    ·exact absurd (hK70 (.inr t1)) (by decide)
    have tk0 : (t.k == 0) = false := by simpa using t0
    have tk1 : (t.k == 1) = false := by simpa using t1
    have hst2 := hide (hst t0 t1 tl)
    have hCL2 := (unhide hcl) t.to
    have hbb2 := hide ((unhide hbb) t.to)
    obtain ⟨CZ, hCZ⟩ : ∃ CZ, CZ = cutS (chs z) t.to := ⟨_, rfl⟩
    rw [← hCZ] at hbt2 hCL2 hbb2
    have HCZ := hide (show CZ ++ [32] ++ tl = behindS (chs z) t.to tl from by rw [hCZ]; unfold cutS behindS; simp)
    clear HST hst hK70 t0 t1 hCZ k0
    go_wp2_with fail
    rw [← unhide HW9]
    clear HW9
    refine (unhide hbt2).mono ?_
    rintro e v1 ⟨g1, cap1, rfl, hB1, e1⟩
    obtain ⟨g9, r0, r1, bw9⟩ := unhide HRR
    have s1 := e1.size
    have bv1 := bw9.trans (e1.mono bw9.size)
    have sv1 := bv1.size
    obtain ⟨i0, hi8, hz8, hs8, hy8⟩ := info8p
    have hrow32 : Row .u8 (v1.alloc (.cells #[.int .u8 32] 5)) (some ⟨v1.heap.size, 0, none⟩) 1 1 [32] := row_newS v1 [32] 5 (0, 0)
    have eA : Below v1.heap.size v1 (v1.alloc (.cells #[.int .u8 32] 5)) := (Below.refl _ _).alloc (Nat.le_refl _) _
    obtain ⟨g2, cap2, v3, hr3, hB3, e3⟩ := append_run (P := Tryz.prog) (t := 22) 22 Tryz.underlying22 hi8 hz8 hs8 hy8 rfl (hB1.below eA) hrow32 (by omega) (by have := eA.size; omega)
    have e13 := (eA.mono (show W9.heap.size ≤ v1.heap.size by omega)).trans e3
    have e03 := e1.trans e13
    have bv3 := bw9.trans (e03.mono bw9.size)
    have sv3 := e13.size
    obtain ⟨g4, cap4, v4, hr4, hB4, e4⟩ := append_run (P := Tryz.prog) (t := 22) 22 Tryz.underlying22 hi8 hz8 hs8 hy8 rfl hB3 ((unhide hJk) v3 bv3) (by omega) (by have := e3.size; have := eA.size; omega)
    have e04 := e03.trans e4
    have HR3 := hide hr3
    have HR4 := hide hr4
    have hp4 := hide (parse_ct (some ⟨g4, 0, none⟩) _ cap4 (CZ ++ [32] ++ tl) d v4 hB4.row (by omega) (unhide hbb2) hd)
    rw [unhide HCZ] at hp4
    have hq5 := unhide hst2
    have g4' := (e04.block w3.heap.size (by omega)).trans g9
    have r0 := (e04.cell (p := ⟨b, 0, none⟩) z9b).trans r0
    have r1 := (e04.cell (p := ⟨b, 1, none⟩) z9b).trans r1
    have bv4 := bw9.trans (e04.mono bw9.size)
    have z4 := e04.size
    have HQ := hide (And.intro hq5 (And.intro g4' (And.intro r0 (And.intro r1 bv4))))
    clear hbt2 HRR g9 bw9 e1 bv1 hrow32 eA hr3 e3 e13 e03 bv3 hr4 e4 e04 hst2 hB1 hB3 hB4 g4' r0 r1 bv4 hq5 hbb2 HCZ
    go_wp2_with (first
     | (at_builtin; refine wpList_append_bsl (by rfl) (.tmp 160) (.tmp 161) (by rfl) (by rfl) (by rfl) (unhide HR3) ?_)
     | (at_builtin; refine wpList_append_bsl (by rfl) (.tmp 164) (.tmp 165) (by rfl) (by rfl) (by rfl) (unhide HR4) ?_))
    refine (unhide hp4).mono ?_
    rintro e v5 ⟨r5, C5, a5, n5, c5, F5, fs5, hq, rfl, hsh5, hfl5, e5⟩
    obtain ⟨hq5, g4', r0, r1, bv4⟩ := unhide HQ
    have hC5 : (sdocG (behindS (chs z) t.to tl) d).2 = C5 := congrArg Prod.snd hq
    rw [hC5] at hq5
    unfold FltAt at hfl5
    rw [if_neg (by rw [hq5.1]; decide), hq5.1, hq5.2] at hfl5
    obtain ⟨b5, y1, y25, rfl, y45, y55⟩ := hfl5
    have s5 := e5.size
    have eB := fun o => show Below v5.heap.size v5 (v5.alloc o) from (Below.refl _ _).alloc (Nat.le_refl _) _
    have g5 := (e5.block w3.heap.size (by omega)).trans g4'
    have k5 : ∀ o, (v5.alloc o).heap[w3.heap.size]? = some (.cells #[.int .i64 71, .slice (some ⟨b, 0, none⟩) 1 1, .slice none 0 0] 29 (0, 0)) := fun o => ((eB o).block w3.heap.size (by omega)).trans g5
    have j0 : ∀ o, (v5.alloc o).cell? ⟨w3.heap.size, 0, none⟩ = some (.int .i64 71) := fun o => (dt.cell_cells (k5 o) 0).trans rfl
    have j1 : ∀ o, (v5.alloc o).cell? ⟨w3.heap.size, 1, none⟩ = some (.slice (some ⟨b, 0, none⟩) 1 1) := fun o => (dt.cell_cells (k5 o) 1).trans rfl
    have j2 : ∀ o, (v5.alloc o).cell? ⟨w3.heap.size, 2, none⟩ = some (.slice none 0 0) := fun o => (dt.cell_cells (k5 o) 2).trans rfl
    have hSF := hide (fun o => sameFault_ok (v5.alloc o) 71 (some ⟨b, 0, none⟩) (some ⟨b5, 0, none⟩) 1 1 1 1 (fun W bb => by
     have x0 := ((e5.trans ((eB o).mono e5.size)).cell (p := ⟨b, 0, none⟩) (show b < v4.heap.size by omega)).trans r0
     have x1 := ((e5.trans ((eB o).mono e5.size)).cell (p := ⟨b, 1, none⟩) (show b < v4.heap.size by omega)).trans r1
     have y0 := ((eB o).cell (p := ⟨b5, 0, none⟩) y25).trans y45
     have y1 := ((eB o).cell (p := ⟨b5, 1, none⟩) y25).trans y55
     have zo : v5.heap.size + 1 = (v5.alloc o).heap.size := by simp
     have zb := bb.size
     exact pos_one W b b5 t.ln t.co ((bb.cell (p := ⟨b, 0, none⟩) (show b < (v5.alloc o).heap.size by omega)).trans x0) ((bb.cell (p := ⟨b, 1, none⟩) (show b < (v5.alloc o).heap.size by omega)).trans x1) ((bb.cell (p := ⟨b5, 0, none⟩) (show b5 < (v5.alloc o).heap.size by omega)).trans y0) ((bb.cell (p := ⟨b5, 1, none⟩) (show b5 < (v5.alloc o).heap.size by omega)).trans y1) (by omega) (by omega)))
    have bv5 := bv4.trans (e5.mono bv4.size)
    have HB5 := hide (And.intro bv5 eB)
    clear hq hsh5 hC5 hq5 g4' r0 r1 bv4 e5 eB g5 k5 bv5 y45 y55 hp4 HQ HR3 HR4
    go_wp2_with fail
    refine ((unhide hSF) _).mono ?_
    rintro e v6 ⟨rfl, e6⟩
    clear hSF j0 j1 j2
    go_wp2_with fail
    go_ret
    obtain ⟨bv5, eB⟩ := unhide HB5
    have e56 := (eB _).trans (e6.mono (eB _).size)
    exact ⟨rfl, bv5.trans (e56.mono bv5.size)⟩
   ·have hk70 : C8.kd = 70 := by rcases hh1 with e | e; exact absurd e hk8; exact e
    unfold FltAt at hfl8
    rw [if_neg hk8, hk70] at hfl8
    obtain ⟨b2, y1', y2', rfl, y4', y5'⟩ := hfl8
    obtain ⟨W9, hW9⟩ : ∃ W9, W9 = w8.alloc (.cells #[.int .i64 70, .slice (some ⟨b2, 0, none⟩) 1 1, .slice none 0 0] 29) := ⟨_, rfl⟩
    have b9 : Below w8.heap.size w8 W9 := by rw [hW9]; exact (Below.refl _ _).alloc (Nat.le_refl _) _
    have z9 : w8.heap.size + 1 ≤ W9.heap.size := by rw [hW9]; simp
    have f9 : W9.heap[w8.heap.size]? = some (.cells #[.int .i64 70, .slice (some ⟨b2, 0, none⟩) 1 1, .slice none 0 0] 29 (0, 0)) := by rw [hW9]; exact heap_alloc_new _ _
    have v0 : W9.cell? ⟨b2, 0, none⟩ = some (.int .i64 C8.tok.ln) := (b9.cell (p := ⟨b2, 0, none⟩) y2').trans y4'
    have v1 : W9.cell? ⟨b2, 1, none⟩ = some (.int .i64 C8.tok.co) := (b9.cell (p := ⟨b2, 1, none⟩) y2').trans y5'
    have b69 := b78.trans (b9.mono b78.size)
    have b79 := b8.trans (b9.mono b8.size)
    have z69 := b69.size
    have ht9 := hide ((unhide htk7) W9 b79)
    have HW9 := hide hW9
    have d0 : W9.cell? ⟨w8.heap.size, 0, none⟩ = some (.int .i64 70) := (dt.cell_cells f9 0).trans rfl
    have HV := hide (And.intro f9 (And.intro v0 (And.intro v1 b69)))
    have HM := hide (And.intro m0 (And.intro m4 (And.intro g6 (And.intro r0 (And.intro r1 bw6)))))
    have HHH := hide (And.intro hh2 (And.intro hh3 (And.intro hh4 hth)))
    obtain ⟨nt2, hnt2⟩ : ∃ nt2, nt2 = TS.length := ⟨_, rfl⟩
    rw [← hnt2] at ht9
    clear hh1 hh2 hh3 hh4 hth hk8 hk70 htk7 HR2 HH b7 b8 b78 b79 g6 bw6 bw8 b9 b69 hW9 v0 v1 f9 m0 m4 r0 r1 y4' y5'
    go_wp2_with fail
    rw [← unhide HW9]
    clear HW9 d0
    refine (unhide ht9).mono ?_
    rintro e w10 ⟨p2, cp2, rfl, hp20, hp21, hrows2, b10⟩
    clear ht9
    obtain ⟨f9, v0, v1, b69⟩ := unhide HV
    obtain ⟨m0, m4, g6, r0, r1, bw6⟩ := unhide HM
    obtain ⟨hh2, hh3, hh4, hth⟩ := unhide HHH
    obtain ⟨t2, ht2⟩ : ∃ t2, t2 = C8.tok := ⟨_, rfl⟩
    rw [← ht2] at hh2 hh3 v0 v1
    have s10 := b10.size
    have b610 := b69.trans (b10.mono b69.size)
    have f10 := (b10.block w8.heap.size (by omega)).trans f9
    have v0 := (b10.cell (p := ⟨b2, 0, none⟩) (show b2 < W9.heap.size by omega)).trans v0
    have v1 := (b10.cell (p := ⟨b2, 1, none⟩) (show b2 < W9.heap.size by omega)).trans v1
    have d0 : w10.cell? ⟨w8.heap.size, 0, none⟩ = some (.int .i64 70) := (dt.cell_cells f10 0).trans rfl
    have d1 : w10.cell? ⟨w8.heap.size, 1, none⟩ = some (.slice (some ⟨b2, 0, none⟩) 1 1) := (dt.cell_cells f10 1).trans rfl
    have hrw := hrows2 _ t2 hh3
    unfold Tk.cells at hrw
    obtain ⟨j, hj⟩ : ∃ j, j = C8.ix := ⟨_, rfl⟩
    rw [← hj] at hh4 hrw
    have l0 : w10.cell? ⟨p2, j * 7, none⟩ = some (.int .i64 t2.k) := hrw 0 _ rfl
    have l1 : w10.cell? ⟨p2, j * 7 + 1, none⟩ = some (.int .i64 t2.ln) := hrw 1 _ rfl
    have l2 : w10.cell? ⟨p2, j * 7 + 2, none⟩ = some (.int .i64 t2.co) := hrw 2 _ rfl
    rw [hh2] at l0
    have hj1 : ((nt2 : Int) - 1) = (j : Int) := by omega
    have jn : (j : Int) < (nt2 : Int) := by omega
    have hj2 : ((nt2 : Int) == 0) = false := by rw [beq_eq_false_iff_ne]; omega
    have hj3 : ¬ ((nt2 : Int) = 0) := by omega
    have hj4 : ¬ (nt2 = 0) := by omega
    have jl : nt2 ≤ 1048578 := by omega
    have HV := hide (And.intro m0 (And.intro m4 (And.intro g6 (And.intro r0 (And.intro r1 (And.intro bw6 b610))))))
    clear HM HHH f9 f10 m0 m4 g6 r0 r1 bw6 b69 b10 hrows2 hrw hh2 hh3 hth ht2 hj hnt2 hh4
    go_wp2_with fail
    go_quiet (fail)
    obtain ⟨W9, hW9⟩ : ∃ W9, W9 = w10.drewN nq := ⟨_, rfl⟩
    have bQ : Below w10.heap.size w10 W9 := by rw [hW9]; exact Go.below_drewN (Below.refl _ _) nq
    rw [← hW9]
    clear hW9 d0 d1 v0 v1 l0 l1 l2 hj1 jn hj2 hj3 hj4 jl
    obtain ⟨m0, m4, g6, r0, r1, bw6, b610⟩ := unhide HV
    have bA := b610.trans (bQ.mono b610.size)
    have m0 := (bA.cell (p := ⟨p, m * 7, none⟩) (show p < w6.heap.size by omega)).trans m0
    have m4 := (bA.cell (p := ⟨p, m * 7 + 4, none⟩) (show p < w6.heap.size by omega)).trans m4
    have g9 := (bA.block w3.heap.size (by omega)).trans g6
    have r0 := (bA.cell (p := ⟨b, 0, none⟩) (show b < w6.heap.size by omega)).trans r0
    have r1 := (bA.cell (p := ⟨b, 1, none⟩) (show b < w6.heap.size by omega)).trans r1
    have bw9 := bw6.trans (bA.mono bw6.size)
    have zA := bA.size
    have k0 : W9.cell? ⟨w3.heap.size, 0, none⟩ = some (.int .i64 71) := (dt.cell_cells g9 0).trans rfl
    have HRR := hide (And.intro g9 (And.intro r0 (And.intro r1 bw9)))
    have hbt2 := hide ((unhide hBt) W9 t.to hto bw9)
    have z9b : b < W9.heap.size := by omega
    have z93 : w3.heap.size < W9.heap.size := by omega
    clear g9 r0 r1 bw9 HV g6 bw6 b610 bA bQ
    obtain ⟨hK70, hst⟩ := unhide HST
    by_cases t0 : t.k = 0
    ·exact absurd (hK70 (.inl t0)) (by decide)
    by_cases t1 : t.k = 1
    ·exact absurd (hK70 (.inr t1)) (by decide)
    have tk0 : (t.k == 0) = false := by simpa using t0
    have tk1 : (t.k == 1) = false := by simpa using t1
    have hst2 := hide (hst t0 t1 tl)
    have hCL2 := (unhide hcl) t.to
    have hbb2 := hide ((unhide hbb) t.to)
    obtain ⟨CZ, hCZ⟩ : ∃ CZ, CZ = cutS (chs z) t.to := ⟨_, rfl⟩
    rw [← hCZ] at hbt2 hCL2 hbb2
    have HCZ := hide (show CZ ++ [32] ++ tl = behindS (chs z) t.to tl from by rw [hCZ]; unfold cutS behindS; simp)
    clear HST hst hK70 t0 t1 hCZ k0
    go_wp2_with fail
    skip
    refine (unhide hbt2).mono ?_
    rintro e v1 ⟨g1, cap1, rfl, hB1, e1⟩
    obtain ⟨g9, r0, r1, bw9⟩ := unhide HRR
    have s1 := e1.size
    have bv1 := bw9.trans (e1.mono bw9.size)
    have sv1 := bv1.size
    obtain ⟨i0, hi8, hz8, hs8, hy8⟩ := info8p
    have hrow32 : Row .u8 (v1.alloc (.cells #[.int .u8 32] 5)) (some ⟨v1.heap.size, 0, none⟩) 1 1 [32] := row_newS v1 [32] 5 (0, 0)
    have eA : Below v1.heap.size v1 (v1.alloc (.cells #[.int .u8 32] 5)) := (Below.refl _ _).alloc (Nat.le_refl _) _
    obtain ⟨g2, cap2, v3, hr3, hB3, e3⟩ := append_run (P := Tryz.prog) (t := 22) 22 Tryz.underlying22 hi8 hz8 hs8 hy8 rfl (hB1.below eA) hrow32 (by omega) (by have := eA.size; omega)
    have e13 := (eA.mono (show W9.heap.size ≤ v1.heap.size by omega)).trans e3
    have e03 := e1.trans e13
    have bv3 := bw9.trans (e03.mono bw9.size)
    have sv3 := e13.size
    obtain ⟨g4, cap4, v4, hr4, hB4, e4⟩ := append_run (P := Tryz.prog) (t := 22) 22 Tryz.underlying22 hi8 hz8 hs8 hy8 rfl hB3 ((unhide hJk) v3 bv3) (by omega) (by have := e3.size; have := eA.size; omega)
    have e04 := e03.trans e4
    have HR3 := hide hr3
    have HR4 := hide hr4
    have hp4 := hide (parse_ct (some ⟨g4, 0, none⟩) _ cap4 (CZ ++ [32] ++ tl) d v4 hB4.row (by omega) (unhide hbb2) hd)
    rw [unhide HCZ] at hp4
    have hq5 := unhide hst2
    have g4' := (e04.block w3.heap.size (by omega)).trans g9
    have r0 := (e04.cell (p := ⟨b, 0, none⟩) z9b).trans r0
    have r1 := (e04.cell (p := ⟨b, 1, none⟩) z9b).trans r1
    have bv4 := bw9.trans (e04.mono bw9.size)
    have z4 := e04.size
    have HQ := hide (And.intro hq5 (And.intro g4' (And.intro r0 (And.intro r1 bv4))))
    clear hbt2 HRR g9 bw9 e1 bv1 hrow32 eA hr3 e3 e13 e03 bv3 hr4 e4 e04 hst2 hB1 hB3 hB4 g4' r0 r1 bv4 hq5 hbb2 HCZ
    go_wp2_with (first
     | (at_builtin; refine wpList_append_bsl (by rfl) (.tmp 160) (.tmp 161) (by rfl) (by rfl) (by rfl) (unhide HR3) ?_)
     | (at_builtin; refine wpList_append_bsl (by rfl) (.tmp 164) (.tmp 165) (by rfl) (by rfl) (by rfl) (unhide HR4) ?_))
    refine (unhide hp4).mono ?_
    rintro e v5 ⟨r5, C5, a5, n5, c5, F5, fs5, hq, rfl, hsh5, hfl5, e5⟩
    obtain ⟨hq5, g4', r0, r1, bv4⟩ := unhide HQ
    have hC5 : (sdocG (behindS (chs z) t.to tl) d).2 = C5 := congrArg Prod.snd hq
    rw [hC5] at hq5
    unfold FltAt at hfl5
    rw [if_neg (by rw [hq5.1]; decide), hq5.1, hq5.2] at hfl5
    obtain ⟨b5, y1, y25, rfl, y45, y55⟩ := hfl5
    have s5 := e5.size
    have eB := fun o => show Below v5.heap.size v5 (v5.alloc o) from (Below.refl _ _).alloc (Nat.le_refl _) _
    have g5 := (e5.block w3.heap.size (by omega)).trans g4'
    have k5 : ∀ o, (v5.alloc o).heap[w3.heap.size]? = some (.cells #[.int .i64 71, .slice (some ⟨b, 0, none⟩) 1 1, .slice none 0 0] 29 (0, 0)) := fun o => ((eB o).block w3.heap.size (by omega)).trans g5
    have j0 : ∀ o, (v5.alloc o).cell? ⟨w3.heap.size, 0, none⟩ = some (.int .i64 71) := fun o => (dt.cell_cells (k5 o) 0).trans rfl
    have j1 : ∀ o, (v5.alloc o).cell? ⟨w3.heap.size, 1, none⟩ = some (.slice (some ⟨b, 0, none⟩) 1 1) := fun o => (dt.cell_cells (k5 o) 1).trans rfl
    have j2 : ∀ o, (v5.alloc o).cell? ⟨w3.heap.size, 2, none⟩ = some (.slice none 0 0) := fun o => (dt.cell_cells (k5 o) 2).trans rfl
    have hSF := hide (fun o => sameFault_ok (v5.alloc o) 71 (some ⟨b, 0, none⟩) (some ⟨b5, 0, none⟩) 1 1 1 1 (fun W bb => by
     have x0 := ((e5.trans ((eB o).mono e5.size)).cell (p := ⟨b, 0, none⟩) (show b < v4.heap.size by omega)).trans r0
     have x1 := ((e5.trans ((eB o).mono e5.size)).cell (p := ⟨b, 1, none⟩) (show b < v4.heap.size by omega)).trans r1
     have y0 := ((eB o).cell (p := ⟨b5, 0, none⟩) y25).trans y45
     have y1 := ((eB o).cell (p := ⟨b5, 1, none⟩) y25).trans y55
     have zo : v5.heap.size + 1 = (v5.alloc o).heap.size := by simp
     have zb := bb.size
     exact pos_one W b b5 t.ln t.co ((bb.cell (p := ⟨b, 0, none⟩) (show b < (v5.alloc o).heap.size by omega)).trans x0) ((bb.cell (p := ⟨b, 1, none⟩) (show b < (v5.alloc o).heap.size by omega)).trans x1) ((bb.cell (p := ⟨b5, 0, none⟩) (show b5 < (v5.alloc o).heap.size by omega)).trans y0) ((bb.cell (p := ⟨b5, 1, none⟩) (show b5 < (v5.alloc o).heap.size by omega)).trans y1) (by omega) (by omega)))
    have bv5 := bv4.trans (e5.mono bv4.size)
    have HB5 := hide (And.intro bv5 eB)
    clear hq hsh5 hC5 hq5 g4' r0 r1 bv4 e5 eB g5 k5 bv5 y45 y55 hp4 HQ HR3 HR4
    go_wp2_with fail
    refine ((unhide hSF) _).mono ?_
    rintro e v6 ⟨rfl, e6⟩
    clear hSF j0 j1 j2
    go_wp2_with fail
    go_ret
    obtain ⟨bv5, eB⟩ := unhide HB5
    have e56 := (eB _).trans (e6.mono (eB _).size)
    exact ⟨rfl, bv5.trans (e56.mono bv5.size)⟩
end Go.Proofs.YtmccppkbabjblaaGreat.cu
