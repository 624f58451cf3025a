import Derived.Test.YtepmbmbnlmbhhaaGreatLit6
import Derived.OrdersHeld
import Derived.Deep.MidRow
import Derived.Laws.Rows
import Derived.Laws.ResultCell
set_option linter.unusedVariables false
set_option linter.unusedSimpArgs false
namespace Go.Proofs.YtepmbmbnlmbhhaaGreat.rgn
variable {P:Program} {md:Region.Mode} {ops:Array Oper} {Q:Exit → Act → World → Prop} {S:World → Prop}
universe u
theorem _root_.Go.Proofs.YtepmbmbnlmbhhaaGreat.zA {A:Type u} {xs:List A} {i:Nat} (h:i < xs.toArray.size):xs.toArray[i] = xs[i]'(by simpa using h):=List.getElem_toArray h
theorem _root_.Go.Proofs.YtepmbmbnlmbhhaaGreat.zB {A:Type u} (a:A) (r:List A) (h:0 < (a :: r).length):(a :: r)[0] = a:=List.getElem_cons_zero a r h
theorem _root_.Go.Proofs.YtepmbmbnlmbhhaaGreat.zC {A:Type u} (a:A) (r:List A) (i:Nat) (h:i + 1 < (a :: r).length):(a :: r)[i + 1] = r[i]'(by simpa using h):=List.getElem_cons_succ a r i h
theorem _root_.Go.Proofs.YtepmbmbnlmbhhaaGreat.zD {A:Type u} (l:List A) (i:Nat) (a:A):l.toArray.setIfInBounds i a = (l.set i a).toArray:=List.setIfInBounds_toArray l i a
theorem _root_.Go.Proofs.YtepmbmbnlmbhhaaGreat.zE {A:Type u} {x:A} {xs:List A} {a:A}:(x :: xs).set 0 a = a :: xs:=List.set_cons_zero
theorem _root_.Go.Proofs.YtepmbmbnlmbhhaaGreat.zF {A:Type u} {x:A} {xs:List A} {i:Nat} {a:A}:(x :: xs).set (i + 1) a = x :: xs.set i a:=List.set_cons_succ
theorem tk {i fuel:Nat} {listed:Array Bool} {a:Act} {w:World} {o:Oper} {v:Value} (ho:ops[i]? = some o) (hk:(Region.noSelect ops && Region.free md ops listed i && (Region.ready md ops listed).contains i) = true)
  (hQ:∀ c a w,Q (.panic c) (a.put o.dst v) w → Q (.panic c) a w) (hy:YieldsIf P ops S o v a) (hS:S w)
  (h:wpAnyH P md ops Q S fuel (listed.setIfInBounds i true) (a.put o.dst v) w):wpAnyH P md ops Q S (fuel + 1) listed a w:=by
 simp only [Bool.and_eq_true] at hk
 exact wpAnyH_take ho hk.1.1 hk.1.2 hk.2 hQ hy hS h
theorem tl {i fuel:Nat} {listed:Array Bool} {a:Act} {w:World} {o:Oper} {v:Value} (ho:ops[i]? = some o) (hk:(Region.noSelect ops && Region.free md ops listed i && (Region.ready md ops listed).contains i) = true)
  (hQ:∀ c a w,Q (.panic c) (a.put o.dst v) w → Q (.panic c) a w) (hw:Region.wanted o (yielded ops a.tmps) = true) (hy:∀ w,S w → (execOp a.eval o).run P w = .ok (.value v) w) (hS:S w)
  (h:wpAnyH P md ops Q S fuel (listed.setIfInBounds i true) (a.put o.dst v) w):wpAnyH P md ops Q S (fuel + 1) listed a w:=tk ho hk hQ (.inl ⟨hw,hy⟩) hS h
theorem take {i fuel:Nat} {listed:Array Bool} {a:Act} {w:World} (o:Oper) (v:Value) (ho:ops[i]? = some o) (hs:Region.noSelect ops = true) (hf:Region.free md ops listed i = true) (hr:(Region.ready md ops listed).contains i = true)
  (hQ:∀ c a w,Q (.panic c) (a.put o.dst v) w → Q (.panic c) a w) (hw:Region.wanted o (yielded ops a.tmps) = true) (hS:S w) (hy:∀ w,S w → (execOp a.eval o).run P w = .ok (.value v) w)
  (h:wpAnyH P md ops Q S fuel (listed.setIfInBounds i true) (a.put o.dst v) w):wpAnyH P md ops Q S (fuel + 1) listed a w:=
 wpAnyH_take ho hs hf hr hQ (.inl ⟨hw,hy⟩) hS h
theorem one {i fuel:Nat} {listed:Array Bool} {a:Act} {w:World} (o:Oper) (ho:ops[i]? = some o) (hr:Region.ready md ops listed = [i]) (hw:Region.wanted o (yielded ops a.tmps) = true)
  (h:o.wp P a w (fun a' w' => S w' ∧ wpAnyH P md ops Q S fuel (listed.setIfInBounds i true) a' w') Q):wpAnyH P md ops Q S (fuel + 1) listed a w:=by
 refine wpAnyH_all hr (by simp) ?_
 intro j hj
 obtain rfl:j = i:=by simpa using hj
 unfold wpOp
 simp only [ho,hw,if_true]
 exact .inl h
theorem two {i j fuel:Nat} {listed:Array Bool} {a:Act} {w:World} (oi oj:Oper) (hi:ops[i]? = some oi) (hj:ops[j]? = some oj) (hr:Region.ready md ops listed = [i,j]) (wi:Region.wanted oi (yielded ops a.tmps) = true) (wj:Region.wanted oj (yielded ops a.tmps) = true)
  (h1:oi.wp P a w (fun a' w' => S w' ∧ wpAnyH P md ops Q S fuel (listed.setIfInBounds i true) a' w') Q)
  (h2:oj.wp P a w (fun a' w' => S w' ∧ wpAnyH P md ops Q S fuel (listed.setIfInBounds j true) a' w') Q):wpAnyH P md ops Q S (fuel + 1) listed a w:=by
 refine wpAnyH_all hr (by simp) ?_
 intro k hk
 rcases (by simpa using hk:k = i ∨ k = j) with rfl | rfl
 ·unfold wpOp
  simp only [hi,wi,if_true]
  exact .inl h1
 ·unfold wpOp
  simp only [hj,wj,if_true]
  exact .inl h2
theorem result_row {fn:Func} {p:Tmp} {ty:TypeId} (h:fn.results = #[.cell p ty]) (tmps:Array Value) (w:World) (b o:Nat) (cs:List Value) (d:TypeDesc) (hp:tmps.getD p undef = .pointer (some ⟨b,o,none⟩)) (hc:w.rangeAt b o cs)
  (hu:P.underlying ty = some d) (hd:d.isRow = true) (hi:(P.info? ty).map (·.size) = some cs.length):(results fn tmps).run P w = .ok (.agg cs.toArray) w:=by
 have:=run_loadVar_mid (P:=P) w b o ty cs d hc hu hd hi
 have hp':tmps[p]?.getD undef = .pointer (some ⟨b,o,none⟩):=by simpa using hp
 simp [results,h,hp',asAddr,this]
theorem result_row_tmp {fn:Func} {p u:Tmp} {ty:TypeId} (h:fn.results = #[.cell p ty,.tmp u]) (tmps:Array Value) (w:World) (b o:Nat) (cs:List Value) (d:TypeDesc) (hp:tmps.getD p undef = .pointer (some ⟨b,o,none⟩)) (hc:w.rangeAt b o cs)
  (hu:P.underlying ty = some d) (hd:d.isRow = true) (hi:(P.info? ty).map (·.size) = some cs.length):(results fn tmps).run P w = .ok (.tuple #[.agg cs.toArray,tmps.getD u undef]) w:=by
 have:=run_loadVar_mid (P:=P) w b o ty cs d hc hu hd hi
 have hp':tmps[p]?.getD undef = .pointer (some ⟨b,o,none⟩):=by simpa using hp
 simp [results,h,hp',asAddr,this]
end Go.Proofs.YtepmbmbnlmbhhaaGreat.rgn
namespace Go.Proofs.YtepmbmbnlmbhhaaGreat.dt
open Go.ChangeShapes Go.WideShapes Go.ChangeAt Go.RowKit
theorem there_cells {w:World} {b:Nat} {arr:Array Value} {t:TypeId} (h:w.heap[b]? = some (.cells arr t (0,0))) {o n:Nat} (hn:o + n ≤ arr.size):w.there b o n:=fun j hj => by
 refine ⟨?_,?_⟩
 ·simp [World.cell?,h];omega
 ·simp [World.frozen?,h]
theorem cell_cells {w:World} {b:Nat} {arr:Array Value} {t:TypeId} {fr:Nat × Nat} (h:w.heap[b]? = some (.cells arr t fr)) (o:Nat):w.cell? ⟨b,o,none⟩ = arr[o]? := by
 simp [World.cell?,h]
theorem frozen_cells {w:World} {b:Nat} {arr:Array Value} {t:TypeId} (h:w.heap[b]? = some (.cells arr t (0,0))) (o:Nat):w.frozen? ⟨b,o,none⟩ = false:=by
 simp [World.frozen?,h]
theorem below_setCells {B:Nat} {w:World} (b:Nat):∀ (vs:List Value) (o:Nat) (w1:World),Below B w w1 → B ≤ b → Below B w (w1.setCells b o vs)
 | [],o,w1,h,hb => h
 | v :: r,o,w1,h,hb => below_setCells b r (o + 1) _ (h.setCell (p:=⟨b,o,none⟩) hb v) hb
theorem size_setCells (b:Nat):∀ (vs:List Value) (o:Nat) (w:World),(w.setCells b o vs).heap.size = w.heap.size
 | [],o,w => rfl
 | v :: r,o,w => by rw [World.setCells,size_setCells b r (o + 1)];simp
theorem heap_setCells (b:Nat) (c:Nat) (h:c ≠ b):∀ (vs:List Value) (o:Nat) (w:World),(w.setCells b o vs).heap[c]? = w.heap[c]?
 | [],o,w => rfl
 | v :: r,o,w => by rw [World.setCells,heap_setCells b c h r (o + 1)];exact Below.heap_setCell w ⟨b,o,none⟩ v c h
theorem one_cells {cs:List Value} (h:cs.all (·.oneCell') = true):cs.toArray.all (·.oneCell') = true:=by simpa using h
theorem heap_setCell_at {w:World} {b:Nat} {arr:Array Value} {t:TypeId} {fr:Nat × Nat} (h:w.heap[b]? = some (.cells arr t fr)) (o:Nat) (v:Value):(w.setCell ⟨b,o,none⟩ v).heap[b]? = some (.cells (arr.setIfInBounds o v) t fr):=by
 simp [World.setCell,Array.getElem?_modify,h]
theorem range_cells {w:World} {b:Nat} {arr:Array Value} {t:TypeId} {fr:Nat × Nat} (h:w.heap[b]? = some (.cells arr t fr)) (o:Nat) (cs:List Value) (hc:∀ j u,cs[j]? = some u → arr[o + j]? = some u):w.rangeAt b o cs:=fun j u hu => by
 rw [cell_cells h];exact hc j u hu
structure Kp (B:Nat) (w w':World):Prop where
 os:w'.os = w.os
 tape:w'.tape = w.tape
 output:w'.output = w.output
 size:w.heap.size ≤ w'.heap.size
 block:∀ k,k < w.heap.size → k ≠ B → w'.heap[k]? = w.heap[k]?
theorem Kp.refl (B:Nat) (w:World):Kp B w w:=⟨rfl,rfl,rfl,Nat.le_refl _,fun _ _ _ => rfl⟩
theorem Kp.trans {B:Nat} {a b c:World} (h:Kp B a b) (k:Kp B b c):Kp B a c:=
 ⟨k.os.trans h.os,k.tape.trans h.tape,k.output.trans h.output,Nat.le_trans h.size k.size,fun i hi hB => (k.block i (Nat.lt_of_lt_of_le hi h.size) hB).trans (h.block i hi hB)⟩
theorem Kp.of {B:Nat} {w w':World} (h:Below w.heap.size w w'):Kp B w w':=⟨h.os,h.tape,h.output,h.size,fun k hk _ => h.block k hk⟩
theorem Kp.below {B lo:Nat} {w w':World} (h:Kp B w w') (h1:lo ≤ B) (h2:lo ≤ w.heap.size):Below lo w w':=⟨h.os,h.tape,h.output,h.size,fun k hk => h.block k (by omega) (by omega)⟩
theorem Kp.set {B:Nat} {w w1:World} (h:Kp B w w1) (o:Nat) (v:Value):Kp B w (w1.setCell ⟨B,o,none⟩ v):=
 ⟨h.os,h.tape,h.output,by simpa using h.size,fun k hk hB => (Below.heap_setCell w1 ⟨B,o,none⟩ v k hB).trans (h.block k hk hB)⟩
theorem Kp.cell {B:Nat} {w w':World} (h:Kp B w w') {b o:Nat} (hb:b < w.heap.size) (hB:b ≠ B):w'.cell? ⟨b,o,none⟩ = w.cell? ⟨b,o,none⟩:=World.cell?_of_block (w:=w) (a:=⟨b,o,none⟩) (h.block b hb hB)
end Go.Proofs.YtepmbmbnlmbhhaaGreat.dt
namespace Go.Proofs.YtepmbmbnlmbhhaaGreat.lx
open Go.ChangeShapes Go.WideShapes Go.ChangeAt Go.RowKit
open ints (Hi uh)
open mem (Row)
open cu (Tk)
open dt (there_cells one_cells below_setCells)
theorem infoTk:(Tryz.prog.info? 77).map (·.size) = some 7:=by kernel_rfl
theorem row_part {k:IntKind} {w:World} {b off n c:Nat} {l:List Int} (h:Row k w (some ⟨b,off,none⟩) n c l) {i j:Nat} (hij:i ≤ j) (hj:j ≤ n):Row k w (some ⟨b,off + i,none⟩) (j - i) (c - i) ((l.take j).drop i):=by
 have hl:=h.len
 have hc:=h.le
 refine ⟨by simp;omega,by omega,(fun e => by cases e),?_⟩
 rcases h.at_ with h0 | ⟨b',off',e,hlt,hcell⟩
 ·exact .inl (by omega)
 ·simp only [Option.some.injEq,Addr.mk.injEq,and_true] at e
  obtain ⟨rfl,rfl⟩:=e
  refine .inr ⟨b,off + i,rfl,hlt,fun m hm => ?_⟩
  rw [Nat.add_assoc,hcell (i + m) (by omega)]
  have:i + m < j:=by omega
  simp [List.getD,this]
def tkAt (l:List Int) (i:Nat):Tk:=
 ⟨(rd l true (ign l false i)).1,(mem.posT l (ign l false i)).1,(mem.posT l (ign l false i)).2,ign l false i,(rd l true (ign l false i)).2,mem.encS ((l.take (rd l true (ign l false i)).2).drop (ign l false i)),cu.em⟩
set_option maxHeartbeats 2000000 in
theorem next_ok (a:Option Addr) (n c:Nat) (l:List Int) (i:Nat) (w:World) (h:Row .i32 w a n c l) (hn:n ≤ 1099511627776) (hi:i ≤ n) (hp:Plain l) (ha:a = none ∨ ∃ b off,a = some ⟨b,off,none⟩) :
  Calls Tryz.prog 75 #[src a n c true,.int .i64 (i:Int)] w fun e w' => e = .returned (.agg #[.int .i64 (tkAt l i).k,.int .i64 0,.int .i64 0,.int .i64 (tkAt l i).fr,.int .i64 (tkAt l i).to,.string (tkAt l i).tx,.string cu.em]) ∧ Below w.heap.size w w':=by
 have hl:=Hi h.len
 have hsb:=Hi (Sb.new w a n c true)
 have h1:=Hi (fun W (hb:Below w.heap.size w W) => ign_ok a n c true l i W (h.below hb) hn hi)
 have g1:=(ign_le l false i).2 (by rw [h.len];exact hi)
 rw [h.len] at g1
 have h2:=Hi (fun W (hb:Below w.heap.size w W) => rd_ok a n c l (ign l false i) W (h.below hb) hn g1 hp)
 have g2:=rd_le l true (ign l false i) (by rw [h.len];exact g1)
 rw [h.len] at g2
 obtain ⟨F,hF⟩:∃ F,F = ign l false i:=⟨_,rfl⟩
 unfold tkAt
 rw [← hF] at h1 h2 g1 g2 ⊢
 obtain ⟨T,hT⟩:∃ T,T = (rd l true F).2:=⟨_,rfl⟩
 obtain ⟨K,hK⟩:∃ K,K = (rd l true F).1:=⟨_,rfl⟩
 rw [← hT,← hK] at h2 g2 ⊢
 clear hT hK hF
 have g3:=g2.1
 have g4:=g2.2.1
 clear g2
 unfold src
 go_enter Tryz.func75,Tryz.ntmps75
 go_wp2_with fail
 obtain ⟨w1,hw1⟩:∃ w1,w1 = (w.alloc (.cells #[.slice a n c,.bool true] 113)).alloc (.cells #[Value.int IntKind.i64 0,Value.int IntKind.i64 0,Value.int IntKind.i64 0,Value.int IntKind.i64 0,Value.int IntKind.i64 0,Value.string { data:=#[] },Value.string { data:=#[] }] 77):=⟨_,rfl⟩
 have hs1:Sb w w1 a n c true:=by rw [hw1];exact (uh hsb).below (ba)
 have hth:Hid (w1.heap[w.heap.size + 1]? = some (.cells #[Value.int IntKind.i64 0,Value.int IntKind.i64 0,Value.int IntKind.i64 0,Value.int IntKind.i64 0,Value.int IntKind.i64 0,Value.string { data:=#[] },Value.string { data:=#[] }] 77 (0,0))):=Hi (by
  rw [hw1]
  have:=heap_alloc_new (w.alloc (.cells #[.slice a n c,.bool true] 113)) (.cells #[Value.int IntKind.i64 0,Value.int IntKind.i64 0,Value.int IntKind.i64 0,Value.int IntKind.i64 0,Value.int IntKind.i64 0,Value.string { data:=#[] },Value.string { data:=#[] }] 77)
  simpa using this)
 have hz1:w.heap.size + 1 < w1.heap.size:=by rw [hw1];simp
 rw [← hw1]
 clear hw1 hsb
 refine ((uh h1) w1 hs1.bel).mono ?_
 rintro e w2 ⟨rfl,b2⟩
 have hs2:=hs1.below b2
 have d0:=hs2.c0
 have d1:=hs2.c1
 go_wp2_with fail
 refine ((uh h2) w2 hs2.bel).mono ?_
 rintro e w3 ⟨rfl,b3⟩
 have hs3:=hs2.below b3
 have b13:=b2.trans (b3.mono b2.size)
 clear d0 d1 h1 h2
 have d0:=hs3.c0
 have d1:=hs3.c1
 rcases ha with rfl | ⟨b,off,rfl⟩
 ·have hc0:=h.nil rfl
  subst hc0
  have hn0:n = 0:=by have:=h.le;omega
  subst hn0
  obtain rfl:F = 0:=by omega
  obtain rfl:T = 0:=by omega
  have hl0:l = []:=List.eq_nil_of_length_eq_zero (uh hl)
  subst hl0
  go_wp2_with fail
  refine (mem.encode_any none 0 0 [] w3 ⟨rfl,Nat.le_refl _,fun _ => rfl,.inl rfl⟩ (by omega)).mono ?_
  rintro e w4 ⟨rfl,b4⟩
  have b14:=b13.trans (b4.mono b13.size)
  have hbx:=(b14.block (w.heap.size + 1) hz1).trans (uh hth)
  have hbel:=hs1.bel.trans (b14.mono (Nat.le_trans (Nat.le_add_right _ 1) (Nat.le_of_lt hz1)))
  have hthr:w4.there (w.heap.size + 1) 0 7:=there_cells hbx (by decide)
  have HB:=Hi hbel
  clear b13 b14 b4 d0 d1 hbx hbel
  obtain ⟨S,hS⟩:∃ S,S = mem.encS ([]):=⟨_,rfl⟩
  rw [← hS]
  have HS:=Hi hS
  clear hS
  go_wp2_with (first
   | refine wpList_store_mid (by rfl) 77 _ _ (by rfl) (w.heap.size + 1) 0 #[.int .i64 K,.int .i64 0,.int .i64 0,.int .i64 (0),.int .i64 (0),.string S,.string ⟨#[]⟩] (by rfl) (by rfl) hthr infoTk (one_cells (cs:=[.int .i64 K,.int .i64 0,.int .i64 0,.int .i64 (0),.int .i64 (0),.string S,.string ⟨#[]⟩]) (by rfl)) ?_)
  refine bodyPost_ret (rgn.result_row rfl _ _ (w.heap.size + 1) 0 [.int .i64 K,.int .i64 0,.int .i64 0,.int .i64 (0),.int .i64 (0),.string S,.string ⟨#[]⟩] _ rfl (World.rangeAt_setCells_same _ _ _ _ hthr) Tryz.underlying77 rfl infoTk) rfl ?_
  exact ⟨by first | rfl | (rw [uh HS];simp [cu.em]) | (simp [cu.em,uh HS]),below_setCells _ _ _ _ (uh HB) (Nat.le_add_right _ 1)⟩
 ·have hle:=h.le
  have k1:(F:Int) ≤ (T:Int):=by omega
  have k2:(T:Int) ≤ (c:Int):=by omega
  have hrow:=row_part (h.below hs3.bel) g3 g4
  by_cases hFc:F = c
  ·subst hFc
   have hrow2:Row .i32 w3 (some ⟨b,off,none⟩) (T - F) 0 ((l.take T).drop F):=⟨hrow.len,by omega,(fun e => by cases e),.inl (by omega)⟩
   go_wp2_with fail
   refine (mem.encode_any (some ⟨b,off,none⟩) (T - F) 0 ((l.take T).drop F) w3 hrow2 (by omega)).mono ?_
   rintro e w4 ⟨rfl,b4⟩
   have b14:=b13.trans (b4.mono b13.size)
   have hbx:=(b14.block (w.heap.size + 1) hz1).trans (uh hth)
   have hbel:=hs1.bel.trans (b14.mono (Nat.le_trans (Nat.le_add_right _ 1) (Nat.le_of_lt hz1)))
   have hthr:w4.there (w.heap.size + 1) 0 7:=there_cells hbx (by decide)
   have HB:=Hi hbel
   clear b13 b14 b4 d0 d1 hbx hbel
   obtain ⟨S,hS⟩:∃ S,S = mem.encS (((l.take T).drop F)):=⟨_,rfl⟩
   rw [← hS]
   have HS:=Hi hS
   clear hS
   go_wp2_with (first
    | refine wpList_store_mid (by rfl) 77 _ _ (by rfl) (w.heap.size + 1) 0 #[.int .i64 K,.int .i64 0,.int .i64 0,.int .i64 (F:Int),.int .i64 (T:Int),.string S,.string ⟨#[]⟩] (by rfl) (by rfl) hthr infoTk (one_cells (cs:=[.int .i64 K,.int .i64 0,.int .i64 0,.int .i64 (F:Int),.int .i64 (T:Int),.string S,.string ⟨#[]⟩]) (by rfl)) ?_)
   refine bodyPost_ret (rgn.result_row rfl _ _ (w.heap.size + 1) 0 [.int .i64 K,.int .i64 0,.int .i64 0,.int .i64 (F:Int),.int .i64 (T:Int),.string S,.string ⟨#[]⟩] _ rfl (World.rangeAt_setCells_same _ _ _ _ hthr) Tryz.underlying77 rfl infoTk) rfl ?_
   exact ⟨by first | rfl | (rw [uh HS];simp [cu.em]) | (simp [cu.em,uh HS]),below_setCells _ _ _ _ (uh HB) (Nat.le_add_right _ 1)⟩
  ·have hFc2:¬ (F:Int) = (c:Int):=by omega
   go_wp2_with fail
   refine (mem.encode_any (some ⟨b,off + F,none⟩) (T - F) (c - F) ((l.take T).drop F) w3 hrow (by omega)).mono ?_
   rintro e w4 ⟨rfl,b4⟩
   have b14:=b13.trans (b4.mono b13.size)
   have hbx:=(b14.block (w.heap.size + 1) hz1).trans (uh hth)
   have hbel:=hs1.bel.trans (b14.mono (Nat.le_trans (Nat.le_add_right _ 1) (Nat.le_of_lt hz1)))
   have hthr:w4.there (w.heap.size + 1) 0 7:=there_cells hbx (by decide)
   have HB:=Hi hbel
   clear b13 b14 b4 d0 d1 hbx hbel
   obtain ⟨S,hS⟩:∃ S,S = mem.encS (((l.take T).drop F)):=⟨_,rfl⟩
   rw [← hS]
   have HS:=Hi hS
   clear hS
   go_wp2_with (first
    | refine wpList_store_mid (by rfl) 77 _ _ (by rfl) (w.heap.size + 1) 0 #[.int .i64 K,.int .i64 0,.int .i64 0,.int .i64 (F:Int),.int .i64 (T:Int),.string S,.string ⟨#[]⟩] (by rfl) (by rfl) hthr infoTk (one_cells (cs:=[.int .i64 K,.int .i64 0,.int .i64 0,.int .i64 (F:Int),.int .i64 (T:Int),.string S,.string ⟨#[]⟩]) (by rfl)) ?_)
   refine bodyPost_ret (rgn.result_row rfl _ _ (w.heap.size + 1) 0 [.int .i64 K,.int .i64 0,.int .i64 0,.int .i64 (F:Int),.int .i64 (T:Int),.string S,.string ⟨#[]⟩] _ rfl (World.rangeAt_setCells_same _ _ _ _ hthr) Tryz.underlying77 rfl infoTk) rfl ?_
   exact ⟨by first | rfl | (rw [uh HS];simp [cu.em]) | (simp [cu.em,uh HS]),below_setCells _ _ _ _ (uh HB) (Nat.le_add_right _ 1)⟩
theorem endB_le (l:List Int):∀ (k j i:Nat),endB l k j = some i → j ≤ i ∧ tq l i = true
 | 0,j,i,h => by cases h
 | k + 1,j,i,h => by
  unfold endB at h
  split at h
  ·rename_i ht
   simp at h
   subst h
   exact ⟨Nat.le_refl _,ht⟩
  ·split at h
   ·have:=endB_le l k _ _ h
    exact ⟨by omega,this.2⟩
   ·split at h
    ·cases h
    ·have:=endB_le l k _ _ h
     exact ⟨by omega,this.2⟩
theorem endQ_le (l:List Int):∀ (k j i:Nat),endQ l k j = some i → j ≤ i ∧ cAt l i = 34
 | 0,j,i,h => by cases h
 | k + 1,j,i,h => by
  unfold endQ at h
  split at h
  ·rename_i ht
   simp at h
   subst h
   exact ⟨Nat.le_refl _,ht⟩
  ·split at h
   ·split at h
    ·cases h
    ·have:=endQ_le l k _ _ h
     exact ⟨by omega,this.2⟩
   ·split at h
    ·cases h
    ·have:=endQ_le l k _ _ h
     exact ⟨by omega,this.2⟩
theorem blc_le (bS:List Int → ByteArray) (l:List Int) (i:Nat) (hi:i ≤ l.length):i ≤ (blc bS l i).2.1 ∧ (blc bS l i).2.1 ≤ l.length ∧ ((blc bS l i).1 = 1 ∨ i < (blc bS l i).2.1) ∧ (blc bS l i).1 ≠ 0:=by
 unfold blc
 cases e:endB l (l.length + 2) (i + 3) with
 | none => exact ⟨Nat.le_refl _,hi,.inl rfl,by simp [blcR]⟩
 | some j =>
  have h1:=endB_le l _ _ _ e
  have h2:=tq_len l j h1.2
  simp only [blcR]
  exact ⟨by omega,by omega,.inr (by omega),by decide⟩
theorem qtd_le (l:List Int) (i:Nat) (hi:i ≤ l.length):i ≤ (qtd l i).2.1 ∧ (qtd l i).2.1 ≤ l.length ∧ ((qtd l i).1 = 1 ∨ i < (qtd l i).2.1) ∧ (qtd l i).1 ≠ 0:=by
 unfold qtd
 cases e:endQ l (l.length + 2) (i + 1) with
 | none => exact ⟨Nat.le_refl _,hi,.inl rfl,by simp [qtdR]⟩
 | some j =>
  have h1:=endQ_le l _ _ _ e
  have h2:=cAt_34 l j h1.2
  simp only [qtdR]
  cases quo (insZ l (i + 1) j) with
  | none => exact ⟨Nat.le_refl _,hi,.inl rfl,by simp⟩
  | some r => exact ⟨by simp only;omega,by simp only;omega,.inr (by simp only;omega),by simp⟩
theorem rdG_le (l:List Int) (cl:Bool) (i:Nat) (hi:i ≤ l.length):i ≤ (rdG l cl i).2.1 ∧ (rdG l cl i).2.1 ≤ l.length ∧ ((rdG l cl i).1 = 0 ∨ (rdG l cl i).1 = 1 ∨ i < (rdG l cl i).2.1):=by
 unfold rdG
 split
 ·exact ⟨Nat.le_refl _,hi,.inl rfl⟩
 ·split
  ·split
   ·rename_i h
    have:=cAt_lt h.2 (by decide)
    exact ⟨by simp only;omega,by simp only;omega,.inr (.inr (by simp only;omega))⟩
   ·exact ⟨Nat.le_refl _,hi,.inr (.inl rfl)⟩
  ·split
   ·rename_i h
    have hlt:i < l.length:=by
     rcases Nat.lt_or_ge i l.length with h1 | h1
     ·exact h1
     ·rw [cAt_end h1] at h;exact absurd h (by decide)
    exact ⟨by simp only;omega,by simp only;omega,.inr (.inr (by simp only;omega))⟩
   ·split
    ·rename_i h
     have hlt:i < l.length:=by
      rcases Nat.lt_or_ge i l.length with h1 | h1
      ·exact h1
      ·rw [cAt_end h1] at h;exact absurd h (by decide)
     have:=nam_le l (i + 1)
     exact ⟨by simp only;omega,by simp only;omega,.inr (.inr (by simp only;omega))⟩
    ·split
     ·have:=num_le l i hi
      exact ⟨this.1,this.2.1,by rcases this.2.2.1 with h | h;exact .inr (.inl h);exact .inr (.inr h)⟩
     ·split
      ·have:=blc_le sv.bS l i hi
       exact ⟨this.1,this.2.1,by rcases this.2.2.1 with h | h;exact .inr (.inl h);exact .inr (.inr h)⟩
      ·split
       ·have:=qtd_le l i hi
        exact ⟨this.1,this.2.1,by rcases this.2.2.1 with h | h;exact .inr (.inl h);exact .inr (.inr h)⟩
       ·exact ⟨Nat.le_refl _,hi,.inr (.inl rfl)⟩
def tkG (l:List Int) (cl:Bool) (i:Nat):Tk:=
 ⟨(rdG l cl (ign l false i)).1,(mem.posT l (ign l false i)).1,(mem.posT l (ign l false i)).2,ign l false i,(rdG l cl (ign l false i)).2.1,mem.encS ((l.take (rdG l cl (ign l false i)).2.1).drop (ign l false i)),(rdG l cl (ign l false i)).2.2⟩
set_option maxHeartbeats 2000000 in
theorem nextG_ok (a:Option Addr) (n c:Nat) (cl:Bool) (l:List Int) (i:Nat) (w:World) (h:Row .i32 w a n c l) (hn:n ≤ 1099511627776) (hi:i ≤ n) (hp:∀ x ∈ l,mem.scP x) (ha:a = none ∨ ∃ b off,a = some ⟨b,off,none⟩) :
  Calls Tryz.prog 75 #[src a n c cl,.int .i64 (i:Int)] w fun e w' => e = .returned (.agg #[.int .i64 (tkG l cl i).k,.int .i64 0,.int .i64 0,.int .i64 (tkG l cl i).fr,.int .i64 (tkG l cl i).to,.string (tkG l cl i).tx,.string (tkG l cl i).va]) ∧ Below w.heap.size w w':=by
 have hl:=Hi h.len
 have hsb:=Hi (Sb.new w a n c cl)
 have h1:=Hi (fun W (hb:Below w.heap.size w W) => ign_ok a n c cl l i W (h.below hb) hn hi)
 have g1:=(ign_le l false i).2 (by rw [h.len];exact hi)
 rw [h.len] at g1
 have h2:=Hi (fun W (hb:Below w.heap.size w W) => rdG_ok a n c cl l (ign l false i) W (h.below hb) hn g1 hp)
 have g2:=rdG_le l cl (ign l false i) (by rw [h.len];exact g1)
 rw [h.len] at g2
 obtain ⟨F,hF⟩:∃ F,F = ign l false i:=⟨_,rfl⟩
 unfold tkG
 rw [← hF] at h1 h2 g1 g2 ⊢
 obtain ⟨T,hT⟩:∃ T,T = (rdG l cl F).2.1:=⟨_,rfl⟩
 obtain ⟨K,hK⟩:∃ K,K = (rdG l cl F).1:=⟨_,rfl⟩
 obtain ⟨V,hV⟩:∃ V,V = (rdG l cl F).2.2:=⟨_,rfl⟩
 rw [← hT,← hK,← hV] at h2 ⊢
 rw [← hT,← hK] at g2
 clear hT hK hF hV
 have g3:=g2.1
 have g4:=g2.2.1
 clear g2
 unfold src
 go_enter Tryz.func75,Tryz.ntmps75
 go_wp2_with fail
 obtain ⟨w1,hw1⟩:∃ w1,w1 = (w.alloc (.cells #[.slice a n c,.bool cl] 113)).alloc (.cells #[Value.int IntKind.i64 0,Value.int IntKind.i64 0,Value.int IntKind.i64 0,Value.int IntKind.i64 0,Value.int IntKind.i64 0,Value.string { data:=#[] },Value.string { data:=#[] }] 77):=⟨_,rfl⟩
 have hs1:Sb w w1 a n c cl:=by rw [hw1];exact (uh hsb).below (ba)
 have hth:Hid (w1.heap[w.heap.size + 1]? = some (.cells #[Value.int IntKind.i64 0,Value.int IntKind.i64 0,Value.int IntKind.i64 0,Value.int IntKind.i64 0,Value.int IntKind.i64 0,Value.string { data:=#[] },Value.string { data:=#[] }] 77 (0,0))):=Hi (by
  rw [hw1]
  have:=heap_alloc_new (w.alloc (.cells #[.slice a n c,.bool cl] 113)) (.cells #[Value.int IntKind.i64 0,Value.int IntKind.i64 0,Value.int IntKind.i64 0,Value.int IntKind.i64 0,Value.int IntKind.i64 0,Value.string { data:=#[] },Value.string { data:=#[] }] 77)
  simpa using this)
 have hz1:w.heap.size + 1 < w1.heap.size:=by rw [hw1];simp
 rw [← hw1]
 clear hw1 hsb
 refine ((uh h1) w1 hs1.bel).mono ?_
 rintro e w2 ⟨rfl,b2⟩
 have hs2:=hs1.below b2
 have d0:=hs2.c0
 have d1:=hs2.c1
 go_wp2_with fail
 refine ((uh h2) w2 hs2.bel).mono ?_
 rintro e w3 ⟨rfl,b3⟩
 have hs3:=hs2.below b3
 have b13:=b2.trans (b3.mono b2.size)
 clear d0 d1 h1 h2
 have d0:=hs3.c0
 have d1:=hs3.c1
 rcases ha with rfl | ⟨b,off,rfl⟩
 ·have hc0:=h.nil rfl
  subst hc0
  have hn0:n = 0:=by have:=h.le;omega
  subst hn0
  obtain rfl:F = 0:=by omega
  obtain rfl:T = 0:=by omega
  have hl0:l = []:=List.eq_nil_of_length_eq_zero (uh hl)
  subst hl0
  go_wp2_with fail
  refine (mem.encode_any none 0 0 [] w3 ⟨rfl,Nat.le_refl _,fun _ => rfl,.inl rfl⟩ (by omega)).mono ?_
  rintro e w4 ⟨rfl,b4⟩
  have b14:=b13.trans (b4.mono b13.size)
  have hbx:=(b14.block (w.heap.size + 1) hz1).trans (uh hth)
  have hbel:=hs1.bel.trans (b14.mono (Nat.le_trans (Nat.le_add_right _ 1) (Nat.le_of_lt hz1)))
  have hthr:w4.there (w.heap.size + 1) 0 7:=there_cells hbx (by decide)
  have HB:=Hi hbel
  clear b13 b14 b4 d0 d1 hbx hbel
  obtain ⟨S,hS⟩:∃ S,S = mem.encS ([]):=⟨_,rfl⟩
  rw [← hS]
  have HS:=Hi hS
  clear hS
  go_wp2_with (first
   | refine wpList_store_mid (by rfl) 77 _ _ (by rfl) (w.heap.size + 1) 0 #[.int .i64 K,.int .i64 0,.int .i64 0,.int .i64 (0),.int .i64 (0),.string S,.string V] (by rfl) (by rfl) hthr infoTk (one_cells (cs:=[.int .i64 K,.int .i64 0,.int .i64 0,.int .i64 (0),.int .i64 (0),.string S,.string V]) (by rfl)) ?_)
  refine bodyPost_ret (rgn.result_row rfl _ _ (w.heap.size + 1) 0 [.int .i64 K,.int .i64 0,.int .i64 0,.int .i64 (0),.int .i64 (0),.string S,.string V] _ rfl (World.rangeAt_setCells_same _ _ _ _ hthr) Tryz.underlying77 rfl infoTk) rfl ?_
  exact ⟨by first | rfl | (rw [uh HS];simp) | (simp [uh HS]),below_setCells _ _ _ _ (uh HB) (Nat.le_add_right _ 1)⟩
 ·have hle:=h.le
  have k1:(F:Int) ≤ (T:Int):=by omega
  have k2:(T:Int) ≤ (c:Int):=by omega
  have hrow:=row_part (h.below hs3.bel) g3 g4
  by_cases hFc:F = c
  ·subst hFc
   have hrow2:Row .i32 w3 (some ⟨b,off,none⟩) (T - F) 0 ((l.take T).drop F):=⟨hrow.len,by omega,(fun e => by cases e),.inl (by omega)⟩
   go_wp2_with fail
   refine (mem.encode_any (some ⟨b,off,none⟩) (T - F) 0 ((l.take T).drop F) w3 hrow2 (by omega)).mono ?_
   rintro e w4 ⟨rfl,b4⟩
   have b14:=b13.trans (b4.mono b13.size)
   have hbx:=(b14.block (w.heap.size + 1) hz1).trans (uh hth)
   have hbel:=hs1.bel.trans (b14.mono (Nat.le_trans (Nat.le_add_right _ 1) (Nat.le_of_lt hz1)))
   have hthr:w4.there (w.heap.size + 1) 0 7:=there_cells hbx (by decide)
   have HB:=Hi hbel
   clear b13 b14 b4 d0 d1 hbx hbel
   obtain ⟨S,hS⟩:∃ S,S = mem.encS (((l.take T).drop F)):=⟨_,rfl⟩
   rw [← hS]
   have HS:=Hi hS
   clear hS
   go_wp2_with (first
    | refine wpList_store_mid (by rfl) 77 _ _ (by rfl) (w.heap.size + 1) 0 #[.int .i64 K,.int .i64 0,.int .i64 0,.int .i64 (F:Int),.int .i64 (T:Int),.string S,.string V] (by rfl) (by rfl) hthr infoTk (one_cells (cs:=[.int .i64 K,.int .i64 0,.int .i64 0,.int .i64 (F:Int),.int .i64 (T:Int),.string S,.string V]) (by rfl)) ?_)
   refine bodyPost_ret (rgn.result_row rfl _ _ (w.heap.size + 1) 0 [.int .i64 K,.int .i64 0,.int .i64 0,.int .i64 (F:Int),.int .i64 (T:Int),.string S,.string V] _ rfl (World.rangeAt_setCells_same _ _ _ _ hthr) Tryz.underlying77 rfl infoTk) rfl ?_
   exact ⟨by first | rfl | (rw [uh HS];simp) | (simp [uh HS]),below_setCells _ _ _ _ (uh HB) (Nat.le_add_right _ 1)⟩
  ·have hFc2:¬ (F:Int) = (c:Int):=by omega
   go_wp2_with fail
   refine (mem.encode_any (some ⟨b,off + F,none⟩) (T - F) (c - F) ((l.take T).drop F) w3 hrow (by omega)).mono ?_
   rintro e w4 ⟨rfl,b4⟩
   have b14:=b13.trans (b4.mono b13.size)
   have hbx:=(b14.block (w.heap.size + 1) hz1).trans (uh hth)
   have hbel:=hs1.bel.trans (b14.mono (Nat.le_trans (Nat.le_add_right _ 1) (Nat.le_of_lt hz1)))
   have hthr:w4.there (w.heap.size + 1) 0 7:=there_cells hbx (by decide)
   have HB:=Hi hbel
   clear b13 b14 b4 d0 d1 hbx hbel
   obtain ⟨S,hS⟩:∃ S,S = mem.encS (((l.take T).drop F)):=⟨_,rfl⟩
   rw [← hS]
   have HS:=Hi hS
   clear hS
   go_wp2_with (first
    | refine wpList_store_mid (by rfl) 77 _ _ (by rfl) (w.heap.size + 1) 0 #[.int .i64 K,.int .i64 0,.int .i64 0,.int .i64 (F:Int),.int .i64 (T:Int),.string S,.string V] (by rfl) (by rfl) hthr infoTk (one_cells (cs:=[.int .i64 K,.int .i64 0,.int .i64 0,.int .i64 (F:Int),.int .i64 (T:Int),.string S,.string V]) (by rfl)) ?_)
   refine bodyPost_ret (rgn.result_row rfl _ _ (w.heap.size + 1) 0 [.int .i64 K,.int .i64 0,.int .i64 0,.int .i64 (F:Int),.int .i64 (T:Int),.string S,.string V] _ rfl (World.rangeAt_setCells_same _ _ _ _ hthr) Tryz.underlying77 rfl infoTk) rfl ?_
   exact ⟨by first | rfl | (rw [uh HS];simp) | (simp [uh HS]),below_setCells _ _ _ _ (uh HB) (Nat.le_add_right _ 1)⟩
end Go.Proofs.YtepmbmbnlmbhhaaGreat.lx
namespace Go.Proofs.YtepmbmbnlmbhhaaGreat.dt
open Go.ChangeShapes Go.WideShapes Go.ChangeAt Go.RowKit
theorem wpO_snoc {P:Program} {t e:TypeId} {size bytes:Nat} {i:TypeInfo} {z:Value} {w:World} {o:Oper} {a:Act} {K:Act → World → Prop} {Q:Exit → Act → World → Prop} (s x:Operand)
  (ho:o.op = .call { callee:=.builtin .append,args:=#[s,x],argTypes:=#[t,t] }) (ht:P.underlying t = some (.slice e)) (hi:P.info? e = some i) (hz:i.zero = some z)
  (hsize:i.size = size) (hby:i.bytes = bytes) (hzs:z.cells.size = size) (hsz:0 < size)
  (B n:Nat) (xs:List Value) (sl:Value) (hs:a.eval s = sl) (hrow:w.ownsRow B e size sl n xs) (ds:List Value) (hl:ds.length = size) (h1:∀ u ∈ ds,u.oneCell' = true)
  (N:Nat) (hN:N = w.heap.size) (hx:a.eval x = .slice (some ⟨N,0,none⟩) 1 1) (hbytes:(n + 1) * bytes ≤ 140737488355328) (h63:n + 1 ≤ maxLen) (hB:B ≤ w.heap.size)
  (h:∀ sl' w',w'.ownsRow B e size sl' (n + 1) (xs ++ ds) → Below B w w' → (∀ b,b < w.heap.size → sl.ownBlock ≠ some b → w'.heap[b]? = w.heap[b]?) → (∀ b,sl'.ownBlock = some b → sl.ownBlock = some b ∨ w.heap.size ≤ b) → K (a.put o.dst sl') w'):o.wp P a (w.alloc (.cells ds.toArray e)) K Q:=by
 subst hN
 refine wp_append_lies _ s x t ho B e i z size bytes ht hi hz hsize hby hzs hsz sl n xs hs (World.ownsRow.alloc hrow _) ⟨w.heap.size,0,none⟩ 1 1 ds hx (by rw [hl];omega) (fun j u hu => by
  rw [Addr.add_mid,Nat.zero_add,World.cell?_alloc_at _ _ _ _ rfl];simpa using hu) h1 (by omega) h63 hbytes (by simp;omega) (w.heap.size + 1) (by simp) ?_
 intro g cap w' hrow' hgr hat hlt
 have hold:∀ b,b < w.heap.size → sl.ownBlock ≠ some b → w'.heap[b]? = w.heap[b]? := fun b hb hne => by
  rw [hgr.block b (by simp;omega) (fun e => hne e.symm)]
  exact Below.heap_alloc w _ b hb
 refine h _ w' hrow' (((Below.refl _ _).alloc hB _).grown hgr (by simp;omega) (fun k hk => (hrow.lt k hk).1)) hold (fun b hb => ?_)
 have hgb:g = b:=Option.some.inj hb
 subst hgb
 rcases hat with hat | hat
 ·exact .inl hat
 ·exact .inr (by omega)
theorem wp_snoc {P:Program} {t e:TypeId} {size bytes:Nat} {i:TypeInfo} {z:Value} {w:World} {ops:Array Oper} {rest:List Oper} {o:Oper} {a:Act} {Q:Exit → Act → World → Prop} (hgd:o.guard = none) (s x:Operand)
  (ho:o.op = .call { callee:=.builtin .append,args:=#[s,x],argTypes:=#[t,t] }) (ht:P.underlying t = some (.slice e)) (hi:P.info? e = some i) (hz:i.zero = some z)
  (hsize:i.size = size) (hby:i.bytes = bytes) (hzs:z.cells.size = size) (hsz:0 < size)
  (B n:Nat) (xs:List Value) (sl:Value) (hs:a.eval s = sl) (hrow:w.ownsRow B e size sl n xs) (ds:List Value) (hl:ds.length = size) (h1:∀ u ∈ ds,u.oneCell' = true)
  (N:Nat) (hN:N = w.heap.size) (hx:a.eval x = .slice (some ⟨N,0,none⟩) 1 1) (hbytes:(n + 1) * bytes ≤ 140737488355328) (h63:n + 1 ≤ maxLen) (hB:B ≤ w.heap.size)
  (h:∀ sl' w',w'.ownsRow B e size sl' (n + 1) (xs ++ ds) → Below B w w' → (∀ b,b < w.heap.size → sl.ownBlock ≠ some b → w'.heap[b]? = w.heap[b]?) → (∀ b,sl'.ownBlock = some b → sl.ownBlock = some b ∨ w.heap.size ≤ b) → wpList P ops Q rest (a.put o.dst sl') w'):wpList P ops Q (o :: rest) a (w.alloc (.cells ds.toArray e)):=
 wpList_plain hgd fun _ hK => wpO_snoc s x ho ht hi hz hsize hby hzs hsz B n xs sl hs hrow ds hl h1 N hN hx hbytes h63 hB fun sl' w' g b c d => hK _ _ (h sl' w' g b c d)
theorem wpO_buildOne {P:Program} {o:Oper} {a:Act} {w w':World} {K:Act → World → Prop} {Q:Exit → Act → World → Prop} (t:TypeId) (x:Operand) (ho:o.op = .buildSlice t 1 #[(0,x)]) (v sl:Value) (hx:a.eval x = v) (hr:(Instr.buildSlice t 1 #[(0,v)]).run P w = .ok sl w')
  (h:K (a.put o.dst sl) w'):o.wp P a w K Q:=by
 unfold Oper.wp execOp
 simp only [ho,List.map_toArray,List.map_cons,List.map_nil,hx,Sem.run_bind,hr,Result.andThen_ok,Sem.run_pure]
 exact h
theorem wpList_buildOne {P:Program} {ops:Array Oper} {rest:List Oper} {o:Oper} {a:Act} {w w':World} {Q:Exit → Act → World → Prop} (hgd:o.guard = none) (t:TypeId) (x:Operand) (ho:o.op = .buildSlice t 1 #[(0,x)]) (v sl:Value) (hx:a.eval x = v) (hr:(Instr.buildSlice t 1 #[(0,v)]).run P w = .ok sl w')
  (h:wpList P ops Q rest (a.put o.dst sl) w'):wpList P ops Q (o :: rest) a w:=
 wpList_plain hgd fun _ hK => by
  unfold Oper.wp execOp
  simp only [ho,List.map_toArray,List.map_cons,List.map_nil,hx,Sem.run_bind,hr,Result.andThen_ok,Sem.run_pure]
  exact hK _ _ h
structure Grow (t:TypeId) (size:Nat) (w:World) (B:Nat) (l:List Dt) (sl:Value) (G:List Nat):Prop where
 nodup:G.Nodup
 rng:∀ b ∈ G,B ≤ b ∧ b < w.heap.size
 own:∀ b ∈ G,sl.ownBlock ≠ some b
 row:∃ xss,w.ownsRow B t size sl l.length xss.flatten ∧ OwL Ow w l xss G ∧ ∀ xs ∈ xss,xs.length = size
theorem Grow.nil {t:TypeId} {size:Nat} {w:World} {B:Nat}:Grow t size w B [] (.slice none 0 0) []:=
 ⟨List.nodup_nil,by simp,by simp,[],⟨by simp,.inl ⟨rfl,rfl⟩⟩,⟨rfl,rfl⟩,by simp⟩
theorem cell_blk {w w':World} {b:Nat} (h:w'.heap[b]? = w.heap[b]?) (j:Nat):w'.cell? ⟨b,j,none⟩ = w.cell? ⟨b,j,none⟩:=World.cell?_of_block (w:=w) (a:=⟨b,j,none⟩) h
theorem owns_keep {w w':World} {B:Nat} {e:TypeId} {size:Nat} {sl:Value} {n:Nat} {xs:List Value} (h:w.ownsRow B e size sl n xs) (hb:∀ b,b < w.heap.size → B ≤ b → sl.ownBlock = some b → w'.heap[b]? = w.heap[b]?):w'.ownsRow B e size sl n xs:=by
 have hlt:=h.lt
 obtain ⟨h1,h2⟩:=h
 refine ⟨h1,?_⟩
 rcases h2 with h2 | ⟨g,cap,cur,hv,hg,hh,r⟩
 ·exact .inl h2
 ·have hob:sl.ownBlock = some g:=by rw [hv];rfl
  exact .inr ⟨g,cap,cur,hv,hg,(hb g (hlt g hob).2 hg hob).trans hh,r⟩
theorem Grow.keep {t:TypeId} {size:Nat} {w w':World} {B:Nat} {l:List Dt} {sl:Value} {G:List Nat} (h:Grow t size w B l sl G) (hs:w.heap.size ≤ w'.heap.size)
  (hb:∀ b,b < w.heap.size → B ≤ b → w'.heap[b]? = w.heap[b]?):Grow t size w' B l sl G:=by
 obtain ⟨xss,hr,hl,hx⟩:=h.row
 have hG:∀ b ∈ G,w'.heap[b]? = w.heap[b]? := fun b hm => hb b (h.rng b hm).2 (h.rng b hm).1
 exact ⟨h.nodup,fun b hm => ⟨(h.rng b hm).1,Nat.lt_of_lt_of_le (h.rng b hm).2 hs⟩,h.own,xss,owns_keep hr (fun b h1 h2 _ => hb b h1 h2),OwL.agree (fun w w' e cs F => Ow.agree e cs F) (fun b hm j => cell_blk (hG b hm) j) hl,hx⟩
theorem Grow.kp {t:TypeId} {size:Nat} {w w':World} {B C:Nat} {l:List Dt} {sl:Value} {G:List Nat} (h:Grow t size w B l sl G) (hk:Kp C w w') (hC:C < B):Grow t size w' B l sl G:=
 h.keep hk.size (fun b h1 h2 => hk.block b h1 (by omega))
theorem Grow.form {t:TypeId} {size:Nat} {w:World} {B:Nat} {l:List Dt} {sl:Value} {G:List Nat} (h:Grow t size w B l sl G):∃ a c,sl = .slice a l.length c:=by
 obtain ⟨xss,hr,_,_⟩:=h.row
 rcases hr.2 with ⟨e,h3⟩ | ⟨g,cap,cur,e,_⟩
 ·exact ⟨none,0,by rw [e,h3]⟩
 ·exact ⟨_,_,e⟩
theorem Grow.shut {t:TypeId} {size:Nat} {w:World} {B:Nat} {l:List Dt} {sl:Value} {G:List Nat} (h:Grow t size w B l sl G):∃ (a:Option Addr) (n c:Nat) (F:List Nat),sl = .slice a n c ∧ n ≤ c ∧ c ≤ maxLen ∧ (a = none → c = 0) ∧ F.Nodup ∧ (∀ b ∈ F,B ≤ b ∧ b < w.heap.size) ∧ n = l.length ∧
  ((a = none ∧ Dt.of l = .nil ∧ n = 0 ∧ F = []) ∨ ∃ p G',a = some ⟨p,0,none⟩ ∧ F = p :: G' ∧ OwIn w (Dt.of l) size p 0 n G'):=by
 obtain ⟨xss,hr,hol,hx⟩:=h.row
 have hlt:=hr.lt
 have hr2:=hr
 obtain ⟨h1,h2⟩:=hr
 rcases h2 with ⟨rfl,h3⟩ | ⟨g,cap,cur,rfl,hg,hh,hnc,hcm,r⟩
 ·have hl0:l = []:=List.eq_nil_of_length_eq_zero h3
  subst hl0
  exact ⟨none,0,0,[],rfl,Nat.le_refl _,Nat.zero_le _,fun _ => rfl,List.nodup_nil,by simp,rfl,.inl ⟨rfl,rfl,rfl,rfl⟩⟩
 ·refine ⟨_,_,_,g :: G,rfl,hnc,hcm,(fun e => by cases e),List.nodup_cons.2 ⟨fun hm => h.own g hm rfl,h.nodup⟩,?_,rfl,.inr ⟨g,G,rfl,rfl,?_⟩⟩
  ·intro b hb
   rcases List.mem_cons.1 hb with rfl | hb
   ·exact ⟨hg,(hlt b rfl).2⟩
   ·exact h.rng b hb
  ·refine OwL.shut l xss G 0 hol hx (fun i u hu => ?_)
   have hi:i < l.length * size:=by
    have:=(List.getElem?_eq_some_iff.1 hu).1
    rw [h1] at this
    exact this
   rw [Nat.zero_add]
   rw [World.ownsRow.cellAt hr2 i (by first | exact hi | omega)]
   exact hu
end Go.Proofs.YtepmbmbnlmbhhaaGreat.dt
namespace Go.Proofs.YtepmbmbnlmbhhaaGreat.lx
open Go.ChangeShapes Go.WideShapes Go.ChangeAt Go.RowKit
open ints (Hi uh)
open mem (Row)
open cu (Tk)
def tksF (l:List Int):Nat → Nat → List Tk
 | 0,i => []
 | f + 1,i => if (tkAt l i).k = 0 ∨ (tkAt l i).k = 1 then [tkAt l i] else tkAt l i :: tksF l f (tkAt l i).to
theorem tk_le (l:List Int) (i:Nat) (hi:i ≤ l.length):(tkAt l i).fr ≤ l.length ∧ (tkAt l i).to ≤ l.length ∧ ((tkAt l i).k = 0 ∨ (tkAt l i).k = 1 ∨ i < (tkAt l i).to):=by
 have h1:=ign_le l false i
 have h2:=rd_le l true (ign l false i) (h1.2 hi)
 refine ⟨h1.2 hi,h2.2.1,?_⟩
 rcases h2.2.2 with h | h | h
 ·exact .inl h
 ·exact .inr (.inl h)
 ·exact .inr (.inr (Nat.lt_of_le_of_lt h1.1 h))
theorem tksF_more (l:List Int):∀ (f g i:Nat),l.length < f + i → l.length < g + i → i ≤ l.length → tksF l f i = tksF l g i
 | 0,g,i,hf,_,hi => by omega
 | f + 1,0,i,_,hg,hi => by omega
 | f + 1,g + 1,i,hf,hg,hi => by
  simp only [tksF]
  split
  ·rfl
  ·rename_i h
   have h2:=tk_le l i hi
   have h3:i < (tkAt l i).to:=by
    rcases h2.2.2 with e | e | e
    ·exact absurd (.inl e) h
    ·exact absurd (.inr e) h
    ·exact e
   rw [tksF_more l f g (tkAt l i).to (by omega) (by omega) h2.2.1]
def tks (l:List Int) (i:Nat):List Tk:=tksF l (l.length + 1) i
theorem tks_end {l:List Int} {i:Nat} (h:(tkAt l i).k = 0 ∨ (tkAt l i).k = 1):tks l i = [tkAt l i]:=by
 unfold tks
 rw [tksF,if_pos h]
theorem tks_go {l:List Int} {i:Nat} (hi:i ≤ l.length) (h:¬ ((tkAt l i).k = 0 ∨ (tkAt l i).k = 1)):tks l i = tkAt l i :: tks l (tkAt l i).to:=by
 have h2:=tk_le l i hi
 have h3:i < (tkAt l i).to:=by
  rcases h2.2.2 with e | e | e
  ·exact absurd (.inl e) h
  ·exact absurd (.inr e) h
  ·exact e
 unfold tks
 rw [show tksF l (l.length + 1) i = tkAt l i :: tksF l l.length (tkAt l i).to from by rw [tksF,if_neg h]]
 rw [tksF_more l l.length (l.length + 1) (tkAt l i).to (by omega) (by omega) h2.2.1]
theorem dec_ascii:∀ (f:Nat) (l:List Int),(∀ c ∈ l,0 ≤ c ∧ c ≤ 127) → l.length ≤ f → mem.decF f l = (l,l.length)
 | 0,l,h,hf => by
  have:l = []:=List.eq_nil_of_length_eq_zero (by omega)
  subst this
  rfl
 | f + 1,[],h,hf => by
  rw [mem.decF_end _ _ (by decide)]
  rfl
 | f + 1,c :: r,h,hf => by
  have hc:=h c (List.mem_cons_self ..)
  have hp:mem.putB c = [c]:=mem.putB_1 (by omega)
  have ho:=mem.one_put c (.inl ⟨hc.1,by omega⟩) r
  rw [hp] at ho
  have ho':mem.oneL (c :: r) = (c,1):=ho
  rw [mem.decF_go f (c :: r) (by rw [ho'];simp),ho']
  simp only [List.drop_succ_cons,List.drop_zero]
  rw [dec_ascii f r (fun x hx => h x (List.mem_cons_of_mem _ hx)) (by simp at hf;omega)]
  simp [Nat.add_comm]
theorem infoTz:∃ i z,Tryz.prog.info? 77 = some i ∧ i.zero = some z ∧ i.size = 7 ∧ i.bytes = 72 ∧ z.cells.size = 7:=by
 have hin:(Tryz.prog.info? 77).map (fun i => (i.bytes,i.size,i.zero.map (·.cells.size))) = some (72,7,some 7):=by kernel_rfl
 cases hq:Tryz.prog.info? 77 with
 | none => simp [hq] at hin
 | some i =>
  simp [hq] at hin
  obtain ⟨h1,h2,z,hz,h3⟩:=hin
  exact ⟨i,z,rfl,hz,h2,h1,h3⟩
theorem pos_cells (l:List Int) (m f:Nat) (hf:f < m):(mem.posCells (mem.plist l m))[f * 2]? = some (.int .i64 (mem.posT l f).1) ∧ (mem.posCells (mem.plist l m))[f * 2 + 1]? = some (.int .i64 (mem.posT l f).2):=by
 have hp:(mem.plist l m)[f]? = some (mem.posT l f):=by simp [mem.plist,hf]
 have key:∀ (ps:List (Int × Int)) (f:Nat) (q:Int × Int),ps[f]? = some q → (mem.posCells ps)[f * 2]? = some (.int .i64 q.1) ∧ (mem.posCells ps)[f * 2 + 1]? = some (.int .i64 q.2):=by
  intro ps
  induction ps with
  | nil => intro f q h;simp at h
  | cons r ps ih =>
   intro f q h
   cases f with
   | zero => simp at h;subst h;simp [mem.posCells]
   | succ f =>
    have:=ih f q (by simpa using h)
    simp only [mem.posCells,List.flatMap_cons] at this ⊢
    rw [show (f + 1) * 2 = f * 2 + 2 by omega,show f * 2 + 2 + 1 = (f * 2 + 1) + 2 by omega]
    exact this
 exact key _ f _ hp
theorem flat7:∀ (ts:List Tk) (i j:Nat) (t:Tk),ts[i]? = some t → j < 7 → (ts.flatMap Tk.cells)[i * 7 + j]? = t.cells[j]?
 | [],i,j,t,h,_ => by simp at h
 | a :: ts,0,j,t,h,hj => by
  simp at h;subst h
  rw [List.flatMap_cons,Nat.zero_mul,Nat.zero_add,List.getElem?_append_left (by simpa [Tk.cells] using hj)]
 | a :: ts,i + 1,j,t,h,hj => by
  have ih:=flat7 ts i j t (by simpa using h) hj
  rw [List.flatMap_cons,List.getElem?_append_right (by simp [Tk.cells];omega),show (i + 1) * 7 + j - a.cells.length = i * 7 + j by simp [Tk.cells];omega]
  exact ih
theorem tokens_end {n:Nat} {l:List Int} {k:Nat} {t:Tk} {pre:List Tk} {w w6 w7:World} {B:Nat} {sl:Value} (hn:n ≤ 1099511627776) (hend:t.k = 0 ∨ t.k = 1) (hpre:pre ++ tks l k = tks l 0) (ht:t = tkAt l k) (hva:t.va = cu.em)
  (hr:w7.ownsRow B 77 7 sl (pre.length + 1) (pre.flatMap Tk.cells ++ [.int .i64 t.k,.int .i64 t.ln,.int .i64 t.co,.int .i64 t.fr,.int .i64 t.to,.string t.tx,.string cu.em])) (hb:Below w.heap.size w w6) (hb7:Below B w6 w7) (hB:w.heap.size ≤ B) :
  ∃ p cap,Ending.returned sl = .returned (.slice (some ⟨p,0,none⟩) (tks l 0).length cap) ∧ w.heap.size ≤ p ∧ p < w7.heap.size ∧ (∀ i t,(tks l 0)[i]? = some t → dt.RowAt w7 p (i * 7) t.cells) ∧ Below w.heap.size w w7:=by
 subst ht
 have htk:tks l 0 = pre ++ [tkAt l k]:=by rw [← hpre,tks_end hend]
 have hcs:pre.flatMap Tk.cells ++ [.int .i64 (tkAt l k).k,.int .i64 (tkAt l k).ln,.int .i64 (tkAt l k).co,.int .i64 (tkAt l k).fr,.int .i64 (tkAt l k).to,.string (tkAt l k).tx,.string cu.em] = (tks l 0).flatMap Tk.cells:=by
  rw [htk,List.flatMap_append]
  simp [Tk.cells,hva]
 have hlen:pre.length + 1 = (tks l 0).length:=by rw [htk];simp
 rw [hcs,hlen] at hr
 have hr2:=hr
 have hlt:=hr.lt
 obtain ⟨h1,h2⟩:=hr
 rcases h2 with ⟨_,h3⟩ | ⟨g,cap,cur,rfl,hg,hh,hnc,r⟩
 ·omega
 ·refine ⟨g,cap,rfl,Nat.le_trans hB hg,(hlt g rfl).2,fun i t ht j u hu => ?_,hb.trans (hb7.mono hB)⟩
  have hi:i < (tks l 0).length:=(List.getElem?_eq_some_iff.1 ht).1
  have hj:j < 7:=(List.getElem?_eq_some_iff.1 hu).1
  rw [World.ownsRow.cellAt hr2 (i * 7 + j) (by omega)]
  rw [flat7 _ i j t ht hj]
  exact hu
set_option maxHeartbeats 4000000 in
theorem tokens_ok (a:Option Addr) (n c:Nat) (l:List Int) (w:World) (h:Row .u8 w a n c l) (hn:n ≤ 1099511627776) (hp:Plain l) :
  Calls Tryz.prog 27 #[.slice a n c] w fun e w' => ∃ p cap,e = .returned (.slice (some ⟨p,0,none⟩) (tks l 0).length cap) ∧ w.heap.size ≤ p ∧ p < w'.heap.size ∧ (∀ i t,(tks l 0)[i]? = some t → dt.RowAt w' p (i * 7) t.cells) ∧ Below w.heap.size w w':=by
 have hd:mem.decZ l = (l,l.length):=dec_ascii _ l (fun x hx => ⟨(hp x hx).1,(hp x hx).2.1⟩) (Nat.le_refl _)
 have hD:=Hi (mem.decode_bytes a n c l w h (fun x hx => ⟨(hp x hx).1,by have:=(hp x hx).2.1;omega⟩) (by omega))
 rw [hd,h.len] at hD
 clear hd
 go_enter Tryz.func27,Tryz.ntmps27
 go_wp2_with fail
 refine (uh hD).mono ?_
 rintro e w1 ⟨v,rfl,hown,b1⟩
 obtain ⟨a1,c1,rfl,hrow⟩:=mem.own_row hown
 have ha1:a1 = none ∨ ∃ b off,a1 = some ⟨b,off,none⟩:=by
  rcases hown.2 with ⟨e,_⟩ | ⟨g,cap,cur,e,_⟩
  ·left;simp at e;exact e.1
  ·right;simp at e;exact ⟨g,0,e.1⟩
 clear hD hown
 have hsb:=Sb.new w1 a1 n c1 true
 go_wp2_with fail
 obtain ⟨w2,hw2⟩:∃ w2,w2 = w1.alloc (.cells #[.slice a1 n c1,.bool true] 113):=⟨_,rfl⟩
 rw [← hw2] at hsb ⊢
 clear hw2
 refine (mem.places_any a1 n c1 l w2 (hrow.below hsb.bel) hn).mono ?_
 rintro e w3 ⟨rfl,hpl,b3⟩
 have hs3:=hsb.below b3
 obtain ⟨pb,hpb⟩:∃ pb,pb = w2.heap.size + 1:=⟨_,rfl⟩
 rw [← hpb] at hpl ⊢
 have hpc:=Hi (fun k hk => World.ownsRow.cellAt hpl k hk)
 have hplt:=(hpl.lt pb rfl).2
 clear hpl
 have hplc:=Hi (fun f (hf:f < n + 1) => pos_cells l (n + 1) f hf)
 go_wp2_with fail
 rw [← hpb]
 clear hpb
 go_loopg [7,8] (n + 1) (fun g vs vi wr => ∃ (k:Nat) (pre:List Tk),k ≤ n ∧ n + 1 ≤ g + k ∧ vi = .int .i64 k ∧ Hid (pre ++ tks l k = tks l 0) ∧ Hid (wr.ownsRow w3.heap.size 77 7 vs pre.length (pre.flatMap Tk.cells)) ∧ pre.length ≤ k ∧ Below w3.heap.size w3 wr)
 case atStart => exact ⟨0,[],Nat.zero_le _,by omega,rfl,Hi rfl,Hi (World.ownsRow_nil _ _ _ _),Nat.zero_le _,Below.refl _ _⟩
 case round =>
  obtain ⟨k,pre,hk,hg,rfl,hpre,hown,hpk,hb⟩:=hrel
  have hsr:=hs3.below hb
  have d0:=hsr.c0
  have d1:=hsr.c1
  go_wp2_with fail
  refine (next_ok a1 n c1 l k wr (hrow.below hsr.bel) hn hk hp ha1).mono ?_
  rintro e w5 ⟨rfl,b5⟩
  have htl:=tk_le l k (by rw [hrow.len];exact hk)
  rw [hrow.len] at htl
  obtain ⟨hfr,hto,hprog⟩:=htl
  have hln:=Hi (show (tkAt l k).ln = (mem.posT l (tkAt l k).fr).1 ∧ (tkAt l k).co = (mem.posT l (tkAt l k).fr).2 ∧ (tkAt l k).va = cu.em from ⟨rfl,rfl,rfl⟩)
  obtain ⟨t,ht⟩:∃ t,t = tkAt l k:=⟨_,rfl⟩
  rw [← ht] at hfr hto hprog hln ⊢
  have Ht:=Hi ht
  clear ht d0 d1
  have b35:=hb.trans (b5.mono hb.size)
  have hcs:∀ o,(w5.alloc o).cell? ⟨pb,t.fr * 2,none⟩ = some (.int .i64 t.ln) ∧ (w5.alloc o).cell? ⟨pb,t.fr * 2 + 1,none⟩ = some (.int .i64 t.co):=fun o => by
   have bA:Below w3.heap.size w3 (w5.alloc o):=b35.alloc b35.size o
   have h1:=(uh hplc) t.fr (by omega)
   rw [bA.cell (p:=⟨pb,t.fr * 2,none⟩) hplt,bA.cell (p:=⟨pb,t.fr * 2 + 1,none⟩) hplt,(uh hpc) (t.fr * 2) (by omega),(uh hpc) (t.fr * 2 + 1) (by omega),(uh hln).1,(uh hln).2.1]
   exact h1
  have k0:=fun o => (hcs o).1
  have k1:=fun o => (hcs o).2
  clear hcs
  obtain ⟨it,zt,q1,q2,q3,q4,q5⟩:=infoTz
  have HQ:=Hi (And.intro q1 (And.intro q2 (And.intro q3 (And.intro q4 q5))))
  clear q1 q2 q3 q4 q5
  have hown6:=Hi (fun o => World.ownsRow.alloc (mem.own_below (uh hown) b5) o)
  have hbyt:=Hi (show (pre.length + 1) * 72 ≤ 140737488355328 ∧ pre.length + 1 ≤ maxLen from ⟨by omega,by unfold maxLen;omega⟩)
  have hsz6:=Hi (fun o => show w3.heap.size ≤ (w5.alloc o).heap.size from by have:=b35.size;simp;omega)
  have hone:Hid (∀ u ∈ [Value.int .i64 t.k,.int .i64 t.ln,.int .i64 t.co,.int .i64 t.fr,.int .i64 t.to,.string t.tx,.string cu.em],u.oneCell' = true):=Hi (by intro u hu;simp at hu;rcases hu with rfl | rfl | rfl | rfl | rfl | rfl | rfl <;> rfl)
  have HB:=Hi b35
  have hne:=Hi (show u7.ownBlock ≠ some w5.heap.size from fun e => by have:=((uh hown).lt _ e).2;have:=b5.size;omega)
  have Hpk:=Hi hpk
  have Hk:=Hi hk
  clear b35 hk hpk
  by_cases hk0:t.k = 0
  ·have e0:(t.k == 0) = true:=by simpa using hk0
   have Hend:=Hi (show t.k = 0 ∨ t.k = 1 from .inl hk0)
   clear hk0
   go_wp2_with (first
    | (at_builtin;refine dt.wp_snoc (by rfl) _ _ (by rfl) Tryz.underlying69 (uh HQ).1 (uh HQ).2.1 (uh HQ).2.2.1 (uh HQ).2.2.2.1 (uh HQ).2.2.2.2 (by omega) w3.heap.size pre.length (pre.flatMap Tk.cells) _ (by rfl) ((uh hown6) _) [.int .i64 t.k,.int .i64 t.ln,.int .i64 t.co,.int .i64 t.fr,.int .i64 t.to,.string t.tx,.string cu.em] (by rfl) (uh hone) (w5.heap.size + 1) (by simp) (by rfl) (uh hbyt).1 (uh hbyt).2 ((uh hsz6) _) ?_;intro sl' w7 hr7 b7 hold7 hat7;have T7:=(hold7 w5.heap.size (by simp) (uh hne)).trans (heap_alloc_new _ _);have f0:w7.cell? ⟨w5.heap.size,0,none⟩ = some (.int .i64 t.k):=(dt.cell_cells T7 0).trans rfl;have f4:w7.cell? ⟨w5.heap.size,4,none⟩ = some (.int .i64 t.to):=(dt.cell_cells T7 4).trans rfl;clear T7;have R7:=Hi hr7;clear hr7;have B7:=Hi b7;clear b7 hold7 hat7))
   go_ret
   exact tokens_end hn (uh Hend) (uh hpre) (uh Ht) (uh hln).2.2 (uh R7) (b1.trans ((hs3.bel.trans (((uh HB).alloc (uh HB).size _).mono (Nat.le_of_lt hs3.lt))).mono b1.size)) (uh B7) (Nat.le_trans b1.size (Nat.le_of_lt hs3.lt))
  by_cases hk1:t.k = 1
  ·have e0:(t.k == 0) = false:=by simpa using hk0
   have e1:(t.k == 1) = true:=by simpa using hk1
   have Hend:=Hi (show t.k = 0 ∨ t.k = 1 from .inr hk1)
   clear hk0 hk1
   go_wp2_with (first
    | (at_builtin;refine dt.wp_snoc (by rfl) _ _ (by rfl) Tryz.underlying69 (uh HQ).1 (uh HQ).2.1 (uh HQ).2.2.1 (uh HQ).2.2.2.1 (uh HQ).2.2.2.2 (by omega) w3.heap.size pre.length (pre.flatMap Tk.cells) _ (by rfl) ((uh hown6) _) [.int .i64 t.k,.int .i64 t.ln,.int .i64 t.co,.int .i64 t.fr,.int .i64 t.to,.string t.tx,.string cu.em] (by rfl) (uh hone) (w5.heap.size + 1) (by simp) (by rfl) (uh hbyt).1 (uh hbyt).2 ((uh hsz6) _) ?_;intro sl' w7 hr7 b7 hold7 hat7;have T7:=(hold7 w5.heap.size (by simp) (uh hne)).trans (heap_alloc_new _ _);have f0:w7.cell? ⟨w5.heap.size,0,none⟩ = some (.int .i64 t.k):=(dt.cell_cells T7 0).trans rfl;have f4:w7.cell? ⟨w5.heap.size,4,none⟩ = some (.int .i64 t.to):=(dt.cell_cells T7 4).trans rfl;clear T7;have R7:=Hi hr7;clear hr7;have B7:=Hi b7;clear b7 hold7 hat7))
   go_ret
   exact tokens_end hn (uh Hend) (uh hpre) (uh Ht) (uh hln).2.2 (uh R7) (b1.trans ((hs3.bel.trans (((uh HB).alloc (uh HB).size _).mono (Nat.le_of_lt hs3.lt))).mono b1.size)) (uh B7) (Nat.le_trans b1.size (Nat.le_of_lt hs3.lt))
  ·have e0:(t.k == 0) = false:=by simpa using hk0
   have e1:(t.k == 1) = false:=by simpa using hk1
   have Hend:=Hi (show ¬ (t.k = 0 ∨ t.k = 1) from fun e => by rcases e with e | e;exact hk0 e;exact hk1 e)
   have hto2:k < t.to:=by
    rcases hprog with e | e | e
    ·exact absurd e hk0
    ·exact absurd e hk1
    ·exact e
   clear hk0 hk1 hprog
   go_wp2_with (first
    | (at_builtin;refine dt.wp_snoc (by rfl) _ _ (by rfl) Tryz.underlying69 (uh HQ).1 (uh HQ).2.1 (uh HQ).2.2.1 (uh HQ).2.2.2.1 (uh HQ).2.2.2.2 (by omega) w3.heap.size pre.length (pre.flatMap Tk.cells) _ (by rfl) ((uh hown6) _) [.int .i64 t.k,.int .i64 t.ln,.int .i64 t.co,.int .i64 t.fr,.int .i64 t.to,.string t.tx,.string cu.em] (by rfl) (uh hone) (w5.heap.size + 1) (by simp) (by rfl) (uh hbyt).1 (uh hbyt).2 ((uh hsz6) _) ?_;intro sl' w7 hr7 b7 hold7 hat7;have T7:=(hold7 w5.heap.size (by simp) (uh hne)).trans (heap_alloc_new _ _);have f0:w7.cell? ⟨w5.heap.size,0,none⟩ = some (.int .i64 t.k):=(dt.cell_cells T7 0).trans rfl;have f4:w7.cell? ⟨w5.heap.size,4,none⟩ = some (.int .i64 t.to):=(dt.cell_cells T7 4).trans rfl;clear T7;have R7:=Hi hr7;clear hr7;have B7:=Hi b7;clear b7 hold7 hat7))
   go_roundg (gk - 1)
   case rel =>
    refine ⟨t.to,pre ++ [t],hto,by omega,rfl,Hi ?_,Hi ?_,?_,?_⟩
    ·have e:=tks_go (l:=l) (i:=k) (by rw [hrow.len];exact uh Hk) (by rw [← uh Ht];exact uh Hend)
     rw [← uh Ht] at e
     rw [← uh hpre,e]
     simp
    ·have:=uh R7
     rw [List.flatMap_append,List.length_append]
     simpa [Tk.cells,(uh hln).2.2] using this
    ·have:=uh Hpk
     rw [List.length_append]
     show pre.length + 1 ≤ t.to
     omega
    ·exact ((uh HB).alloc (uh HB).size _).trans (uh B7)
   case measure => omega
def tksGF (l:List Int) (cl:Bool):Nat → Nat → List Tk
 | 0,i => []
 | f + 1,i => if (tkG l cl i).k = 0 ∨ (tkG l cl i).k = 1 then [tkG l cl i] else tkG l cl i :: tksGF l cl f (tkG l cl i).to
theorem tkG_le (l:List Int) (cl:Bool) (i:Nat) (hi:i ≤ l.length):(tkG l cl i).fr ≤ l.length ∧ (tkG l cl i).to ≤ l.length ∧ ((tkG l cl i).k = 0 ∨ (tkG l cl i).k = 1 ∨ i < (tkG l cl i).to):=by
 have h1:=ign_le l false i
 have h2:=rdG_le l cl (ign l false i) (h1.2 hi)
 refine ⟨h1.2 hi,h2.2.1,?_⟩
 rcases h2.2.2 with h | h | h
 ·exact .inl h
 ·exact .inr (.inl h)
 ·exact .inr (.inr (Nat.lt_of_le_of_lt h1.1 h))
theorem tksGF_more (l:List Int) (cl:Bool):∀ (f g i:Nat),l.length < f + i → l.length < g + i → i ≤ l.length → tksGF l cl f i = tksGF l cl g i
 | 0,g,i,hf,_,hi => by omega
 | f + 1,0,i,_,hg,hi => by omega
 | f + 1,g + 1,i,hf,hg,hi => by
  simp only [tksGF]
  split
  ·rfl
  ·rename_i h
   have h2:=tkG_le l cl i hi
   have h3:i < (tkG l cl i).to:=by
    rcases h2.2.2 with e | e | e
    ·exact absurd (.inl e) h
    ·exact absurd (.inr e) h
    ·exact e
   rw [tksGF_more l cl f g (tkG l cl i).to (by omega) (by omega) h2.2.1]
def tksG (l:List Int) (cl:Bool) (i:Nat):List Tk:=tksGF l cl (l.length + 1) i
theorem tksG_end {l:List Int} {cl:Bool} {i:Nat} (h:(tkG l cl i).k = 0 ∨ (tkG l cl i).k = 1):tksG l cl i = [tkG l cl i]:=by
 unfold tksG
 rw [tksGF,if_pos h]
theorem tksG_go {l:List Int} {cl:Bool} {i:Nat} (hi:i ≤ l.length) (h:¬ ((tkG l cl i).k = 0 ∨ (tkG l cl i).k = 1)):tksG l cl i = tkG l cl i :: tksG l cl (tkG l cl i).to:=by
 have h2:=tkG_le l cl i hi
 have h3:i < (tkG l cl i).to:=by
  rcases h2.2.2 with e | e | e
  ·exact absurd (.inl e) h
  ·exact absurd (.inr e) h
  ·exact e
 unfold tksG
 rw [show tksGF l cl (l.length + 1) i = tkG l cl i :: tksGF l cl l.length (tkG l cl i).to from by rw [tksGF,if_neg h]]
 rw [tksGF_more l cl l.length (l.length + 1) (tkG l cl i).to (by omega) (by omega) h2.2.1]
theorem tokensG_end {n:Nat} {l:List Int} {cl:Bool} {k:Nat} {t:Tk} {pre:List Tk} {w w6 w7:World} {B:Nat} {sl:Value} (hn:n ≤ 1099511627776) (hend:t.k = 0 ∨ t.k = 1) (hpre:pre ++ tksG l cl k = tksG l cl 0) (ht:t = tkG l cl k)
  (hr:w7.ownsRow B 77 7 sl (pre.length + 1) (pre.flatMap Tk.cells ++ [.int .i64 t.k,.int .i64 t.ln,.int .i64 t.co,.int .i64 t.fr,.int .i64 t.to,.string t.tx,.string t.va])) (hb:Below w.heap.size w w6) (hb7:Below B w6 w7) (hB:w.heap.size ≤ B) :
  ∃ p cap,Ending.returned sl = .returned (.slice (some ⟨p,0,none⟩) (tksG l cl 0).length cap) ∧ w.heap.size ≤ p ∧ p < w7.heap.size ∧ (∀ i t,(tksG l cl 0)[i]? = some t → dt.RowAt w7 p (i * 7) t.cells) ∧ Below w.heap.size w w7:=by
 subst ht
 have htk:tksG l cl 0 = pre ++ [tkG l cl k]:=by rw [← hpre,tksG_end hend]
 have hcs:pre.flatMap Tk.cells ++ [.int .i64 (tkG l cl k).k,.int .i64 (tkG l cl k).ln,.int .i64 (tkG l cl k).co,.int .i64 (tkG l cl k).fr,.int .i64 (tkG l cl k).to,.string (tkG l cl k).tx,.string (tkG l cl k).va] = (tksG l cl 0).flatMap Tk.cells:=by
  rw [htk,List.flatMap_append]
  simp [Tk.cells]
 have hlen:pre.length + 1 = (tksG l cl 0).length:=by rw [htk];simp
 rw [hcs,hlen] at hr
 have hr2:=hr
 have hlt:=hr.lt
 obtain ⟨h1,h2⟩:=hr
 rcases h2 with ⟨_,h3⟩ | ⟨g,cap,cur,rfl,hg,hh,hnc,r⟩
 ·omega
 ·refine ⟨g,cap,rfl,Nat.le_trans hB hg,(hlt g rfl).2,fun i t ht j u hu => ?_,hb.trans (hb7.mono hB)⟩
  have hi:i < (tksG l cl 0).length:=(List.getElem?_eq_some_iff.1 ht).1
  have hj:j < 7:=(List.getElem?_eq_some_iff.1 hu).1
  rw [World.ownsRow.cellAt hr2 (i * 7 + j) (by omega)]
  rw [flat7 _ i j t ht hj]
  exact hu
def chs (z:List Int):List Int:=(mem.decZ z).1
def cln (z:List Int):Bool:=decide ((mem.decZ z).2 = z.length)
def toks (z:List Int):List Tk:=tksG (chs z) (cln z) 0
theorem chs_sc {z:List Int} (hz:mem.Byt z):∀ x ∈ chs z,mem.scP x:=fun x hx => (mem.scB_iff x).1 (List.all_eq_true.1 (mem.decF_flat _ z hz).2.2.1 x hx)
set_option maxHeartbeats 4000000 in
theorem tokensG_ok (a:Option Addr) (n0 c:Nat) (z:List Int) (w:World) (h:Row .u8 w a n0 c z) (hn0:n0 ≤ 1099511627776) (hz:mem.Byt z) :
  Calls Tryz.prog 27 #[.slice a n0 c] w fun e w' => ∃ p cap,e = .returned (.slice (some ⟨p,0,none⟩) (toks z).length cap) ∧ w.heap.size ≤ p ∧ p < w'.heap.size ∧ (∀ i t,(toks z)[i]? = some t → dt.RowAt w' p (i * 7) t.cells) ∧ Below w.heap.size w w':=by
 have hD:=Hi (mem.decode_bytes a n0 c z w h hz (by omega))
 have hn1:=Nat.le_trans (mem.decZ_len z hz) (mem.decZ_le z hz)
 have hp:=chs_sc hz
 unfold toks
 obtain ⟨l,hl⟩:∃ l,l = chs z:=⟨_,rfl⟩
 obtain ⟨g0,hg0⟩:∃ g0:Nat,g0 = (mem.decZ z).2:=⟨_,rfl⟩
 have hcl:cln z = decide (g0 = n0):=by unfold cln;rw [hg0,h.len]
 rw [hcl]
 rw [show (mem.decZ z).1 = l from hl.symm,← hg0] at hD
 rw [← hl] at hp ⊢
 have hn:l.length ≤ 1099511627776:=by
  rw [hl]
  unfold chs
  rw [h.len] at hn1
  omega
 clear hl hg0 hcl hn1
 obtain ⟨cl,hcl⟩:∃ cl,cl = decide (g0 = n0):=⟨_,rfl⟩
 rw [← hcl]
 have hce:((g0:Int) == (n0:Int)) = cl:=by
  rw [hcl,Bool.eq_iff_iff,beq_iff_eq,decide_eq_true_iff]
  omega
 clear hcl
 obtain ⟨n,hne⟩:∃ n,n = l.length:=⟨_,rfl⟩
 rw [← hne] at hD hn
 have Hne:=Hi hne
 clear hne
 go_enter Tryz.func27,Tryz.ntmps27
 go_wp2_with fail
 refine (uh hD).mono ?_
 rintro e w1 ⟨v,rfl,hown,b1⟩
 obtain ⟨a1,c1,rfl,hrow⟩:=mem.own_row hown
 have ha1:a1 = none ∨ ∃ b off,a1 = some ⟨b,off,none⟩:=by
  rcases hown.2 with ⟨e,_⟩ | ⟨g,cap,cur,e,_⟩
  ·left;simp at e;exact e.1
  ·right;simp at e;exact ⟨g,0,e.1⟩
 clear hD hown
 have hsb:=Sb.new w1 a1 n c1 cl
 go_wp2_with fail
 obtain ⟨w2,hw2⟩:∃ w2,w2 = w1.alloc (.cells #[.slice a1 n c1,.bool cl] 113):=⟨_,rfl⟩
 rw [← hw2] at hsb ⊢
 clear hw2
 refine (mem.places_any a1 n c1 l w2 (hrow.below hsb.bel) hn).mono ?_
 rintro e w3 ⟨rfl,hpl,b3⟩
 have hs3:=hsb.below b3
 obtain ⟨pb,hpb⟩:∃ pb,pb = w2.heap.size + 1:=⟨_,rfl⟩
 rw [← hpb] at hpl ⊢
 have hpc:=Hi (fun k hk => World.ownsRow.cellAt hpl k hk)
 have hplt:=(hpl.lt pb rfl).2
 clear hpl
 have hplc:=Hi (fun f (hf:f < n + 1) => pos_cells l (n + 1) f hf)
 go_wp2_with fail
 rw [← hpb]
 clear hpb
 go_loopg [7,8] (n + 1) (fun g vs vi wr => ∃ (k:Nat) (pre:List Tk),k ≤ n ∧ n + 1 ≤ g + k ∧ vi = .int .i64 k ∧ Hid (pre ++ tksG l cl k = tksG l cl 0) ∧ Hid (wr.ownsRow w3.heap.size 77 7 vs pre.length (pre.flatMap Tk.cells)) ∧ pre.length ≤ k ∧ Below w3.heap.size w3 wr)
 case atStart => exact ⟨0,[],Nat.zero_le _,by omega,rfl,Hi rfl,Hi (World.ownsRow_nil _ _ _ _),Nat.zero_le _,Below.refl _ _⟩
 case round =>
  obtain ⟨k,pre,hk,hg,rfl,hpre,hown,hpk,hb⟩:=hrel
  have hsr:=hs3.below hb
  have d0:=hsr.c0
  have d1:=hsr.c1
  go_wp2_with fail
  refine (nextG_ok a1 n c1 cl l k wr (hrow.below hsr.bel) hn hk hp ha1).mono ?_
  rintro e w5 ⟨rfl,b5⟩
  have htl:=tkG_le l cl k (by rw [hrow.len];exact hk)
  rw [hrow.len] at htl
  obtain ⟨hfr,hto,hprog⟩:=htl
  have hln:=Hi (show (tkG l cl k).ln = (mem.posT l (tkG l cl k).fr).1 ∧ (tkG l cl k).co = (mem.posT l (tkG l cl k).fr).2 from ⟨rfl,rfl⟩)
  obtain ⟨t,ht⟩:∃ t,t = tkG l cl k:=⟨_,rfl⟩
  rw [← ht] at hfr hto hprog hln ⊢
  have Ht:=Hi ht
  clear ht d0 d1
  have b35:=hb.trans (b5.mono hb.size)
  have hcs:∀ o,(w5.alloc o).cell? ⟨pb,t.fr * 2,none⟩ = some (.int .i64 t.ln) ∧ (w5.alloc o).cell? ⟨pb,t.fr * 2 + 1,none⟩ = some (.int .i64 t.co):=fun o => by
   have bA:Below w3.heap.size w3 (w5.alloc o):=b35.alloc b35.size o
   have h1:=(uh hplc) t.fr (by omega)
   rw [bA.cell (p:=⟨pb,t.fr * 2,none⟩) hplt,bA.cell (p:=⟨pb,t.fr * 2 + 1,none⟩) hplt,(uh hpc) (t.fr * 2) (by omega),(uh hpc) (t.fr * 2 + 1) (by omega),(uh hln).1,(uh hln).2]
   exact h1
  have k0:=fun o => (hcs o).1
  have k1:=fun o => (hcs o).2
  clear hcs
  obtain ⟨it,zt,q1,q2,q3,q4,q5⟩:=infoTz
  have HQ:=Hi (And.intro q1 (And.intro q2 (And.intro q3 (And.intro q4 q5))))
  clear q1 q2 q3 q4 q5
  have hown6:=Hi (fun o => World.ownsRow.alloc (mem.own_below (uh hown) b5) o)
  have hbyt:=Hi (show (pre.length + 1) * 72 ≤ 140737488355328 ∧ pre.length + 1 ≤ maxLen from ⟨by omega,by unfold maxLen;omega⟩)
  have hsz6:=Hi (fun o => show w3.heap.size ≤ (w5.alloc o).heap.size from by have:=b35.size;simp;omega)
  have hone:Hid (∀ u ∈ [Value.int .i64 t.k,.int .i64 t.ln,.int .i64 t.co,.int .i64 t.fr,.int .i64 t.to,.string t.tx,.string t.va],u.oneCell' = true):=Hi (by intro u hu;simp at hu;rcases hu with rfl | rfl | rfl | rfl | rfl | rfl | rfl <;> rfl)
  have HB:=Hi b35
  have hne:=Hi (show u7.ownBlock ≠ some w5.heap.size from fun e => by have:=((uh hown).lt _ e).2;have:=b5.size;omega)
  have Hpk:=Hi hpk
  have Hk:=Hi hk
  clear b35 hk hpk
  by_cases hk0:t.k = 0
  ·have e0:(t.k == 0) = true:=by simpa using hk0
   have Hend:=Hi (show t.k = 0 ∨ t.k = 1 from .inl hk0)
   clear hk0
   go_wp2_with (first
    | (at_builtin;refine dt.wp_snoc (by rfl) _ _ (by rfl) Tryz.underlying69 (uh HQ).1 (uh HQ).2.1 (uh HQ).2.2.1 (uh HQ).2.2.2.1 (uh HQ).2.2.2.2 (by omega) w3.heap.size pre.length (pre.flatMap Tk.cells) _ (by rfl) ((uh hown6) _) [.int .i64 t.k,.int .i64 t.ln,.int .i64 t.co,.int .i64 t.fr,.int .i64 t.to,.string t.tx,.string t.va] (by rfl) (uh hone) (w5.heap.size + 1) (by simp) (by rfl) (uh hbyt).1 (uh hbyt).2 ((uh hsz6) _) ?_;intro sl' w7 hr7 b7 hold7 hat7;have T7:=(hold7 w5.heap.size (by simp) (uh hne)).trans (heap_alloc_new _ _);have f0:w7.cell? ⟨w5.heap.size,0,none⟩ = some (.int .i64 t.k):=(dt.cell_cells T7 0).trans rfl;have f4:w7.cell? ⟨w5.heap.size,4,none⟩ = some (.int .i64 t.to):=(dt.cell_cells T7 4).trans rfl;clear T7;have R7:=Hi hr7;clear hr7;have B7:=Hi b7;clear b7 hold7 hat7))
   go_ret
   exact tokensG_end hn (uh Hend) (uh hpre) (uh Ht) (uh R7) (b1.trans ((hs3.bel.trans (((uh HB).alloc (uh HB).size _).mono (Nat.le_of_lt hs3.lt))).mono b1.size)) (uh B7) (Nat.le_trans b1.size (Nat.le_of_lt hs3.lt))
  by_cases hk1:t.k = 1
  ·have e0:(t.k == 0) = false:=by simpa using hk0
   have e1:(t.k == 1) = true:=by simpa using hk1
   have Hend:=Hi (show t.k = 0 ∨ t.k = 1 from .inr hk1)
   clear hk0 hk1
   go_wp2_with (first
    | (at_builtin;refine dt.wp_snoc (by rfl) _ _ (by rfl) Tryz.underlying69 (uh HQ).1 (uh HQ).2.1 (uh HQ).2.2.1 (uh HQ).2.2.2.1 (uh HQ).2.2.2.2 (by omega) w3.heap.size pre.length (pre.flatMap Tk.cells) _ (by rfl) ((uh hown6) _) [.int .i64 t.k,.int .i64 t.ln,.int .i64 t.co,.int .i64 t.fr,.int .i64 t.to,.string t.tx,.string t.va] (by rfl) (uh hone) (w5.heap.size + 1) (by simp) (by rfl) (uh hbyt).1 (uh hbyt).2 ((uh hsz6) _) ?_;intro sl' w7 hr7 b7 hold7 hat7;have T7:=(hold7 w5.heap.size (by simp) (uh hne)).trans (heap_alloc_new _ _);have f0:w7.cell? ⟨w5.heap.size,0,none⟩ = some (.int .i64 t.k):=(dt.cell_cells T7 0).trans rfl;have f4:w7.cell? ⟨w5.heap.size,4,none⟩ = some (.int .i64 t.to):=(dt.cell_cells T7 4).trans rfl;clear T7;have R7:=Hi hr7;clear hr7;have B7:=Hi b7;clear b7 hold7 hat7))
   go_ret
   exact tokensG_end hn (uh Hend) (uh hpre) (uh Ht) (uh R7) (b1.trans ((hs3.bel.trans (((uh HB).alloc (uh HB).size _).mono (Nat.le_of_lt hs3.lt))).mono b1.size)) (uh B7) (Nat.le_trans b1.size (Nat.le_of_lt hs3.lt))
  ·have e0:(t.k == 0) = false:=by simpa using hk0
   have e1:(t.k == 1) = false:=by simpa using hk1
   have Hend:=Hi (show ¬ (t.k = 0 ∨ t.k = 1) from fun e => by rcases e with e | e;exact hk0 e;exact hk1 e)
   have hto2:k < t.to:=by
    rcases hprog with e | e | e
    ·exact absurd e hk0
    ·exact absurd e hk1
    ·exact e
   clear hk0 hk1 hprog
   go_wp2_with (first
    | (at_builtin;refine dt.wp_snoc (by rfl) _ _ (by rfl) Tryz.underlying69 (uh HQ).1 (uh HQ).2.1 (uh HQ).2.2.1 (uh HQ).2.2.2.1 (uh HQ).2.2.2.2 (by omega) w3.heap.size pre.length (pre.flatMap Tk.cells) _ (by rfl) ((uh hown6) _) [.int .i64 t.k,.int .i64 t.ln,.int .i64 t.co,.int .i64 t.fr,.int .i64 t.to,.string t.tx,.string t.va] (by rfl) (uh hone) (w5.heap.size + 1) (by simp) (by rfl) (uh hbyt).1 (uh hbyt).2 ((uh hsz6) _) ?_;intro sl' w7 hr7 b7 hold7 hat7;have T7:=(hold7 w5.heap.size (by simp) (uh hne)).trans (heap_alloc_new _ _);have f0:w7.cell? ⟨w5.heap.size,0,none⟩ = some (.int .i64 t.k):=(dt.cell_cells T7 0).trans rfl;have f4:w7.cell? ⟨w5.heap.size,4,none⟩ = some (.int .i64 t.to):=(dt.cell_cells T7 4).trans rfl;clear T7;have R7:=Hi hr7;clear hr7;have B7:=Hi b7;clear b7 hold7 hat7))
   go_roundg (gk - 1)
   case rel =>
    refine ⟨t.to,pre ++ [t],hto,by omega,rfl,Hi ?_,Hi ?_,?_,?_⟩
    ·have e:=tksG_go (l:=l) (i:=k) (by rw [hrow.len];exact uh Hk) (by rw [← uh Ht];exact uh Hend)
     rw [← uh Ht] at e
     rw [← uh hpre,e]
     simp
    ·have:=uh R7
     rw [List.flatMap_append,List.length_append]
     simpa [Tk.cells] using this
    ·have:=uh Hpk
     rw [List.length_append]
     show pre.length + 1 ≤ t.to
     omega
    ·exact ((uh HB).alloc (uh HB).size _).trans (uh B7)
   case measure => omega
end Go.Proofs.YtepmbmbnlmbhhaaGreat.lx
namespace Go.Proofs.YtepmbmbnlmbhhaaGreat.cu
open Go.ChangeShapes Go.WideShapes Go.ChangeAt Go.RowKit
open ints (Hi uh)
open dt (Dt Kp RowAt)
structure CurAt (w:World) (B p:Nat) (c:Cu):Prop where
 ok:c.Ok
 len:c.ts.length ≤ 1099511627777
 box:∃ cap,w.heap[B]? = some (.cells #[.slice (some ⟨p,0,none⟩) c.ts.length cap,.int .i64 c.ix,.int .i64 c.op,.int .i64 c.mo,.int .i64 c.kd] 72 (0,0)) ∧ p ≠ B ∧ p < w.heap.size ∧ ∀ i t,c.ts[i]? = some t → RowAt w p (i * 7) t.cells
theorem CurAt.lt {w:World} {B p:Nat} {c:Cu} (h:CurAt w B p c):B < w.heap.size:=by
 obtain ⟨cap,h1,_⟩:=h.box
 exact (Array.getElem?_eq_some_iff.1 h1).1
theorem CurAt.below {w w':World} {B p:Nat} {c:Cu} (h:CurAt w B p c) (hb:Below w.heap.size w w'):CurAt w' B p c:=by
 have hlt:=h.lt
 obtain ⟨cap,h1,h2,h3,h4⟩:=h.box
 exact ⟨h.ok,h.len,cap,(hb.block B hlt).trans h1,h2,Nat.lt_of_lt_of_le h3 hb.size,fun i t ht => (h4 i t ht).below hb⟩
theorem CurAt.plt {w:World} {B p:Nat} {c:Cu} (h:CurAt w B p c):p < w.heap.size:=by
 obtain ⟨cap,h1,h2,h3,h4⟩:=h.box
 exact h3
theorem CurAt.out {w:World} {B p:Nat} {c:Cu} (h:CurAt w B p c) {b:Nat} (hb:B ≠ b) (hp:p ≠ b) (o:Nat) (vs:List Value):CurAt (w.setCells b o vs) B p c:=by
 obtain ⟨cap,h1,h2,h3,h4⟩:=h.box
 exact ⟨h.ok,h.len,cap,(dt.heap_setCells b B hb vs o w).trans h1,h2,by rw [dt.size_setCells];exact h3,fun i t ht j u hu => (dt.cell_blk (dt.heap_setCells b p hp vs o w) _).trans (h4 i t ht j u hu)⟩
theorem _root_.Go.Proofs.YtepmbmbnlmbhhaaGreat.dt.Kp.out {B:Nat} {w w1:World} (h:Kp B w w1) {b:Nat} (hb:w.heap.size ≤ b) (o:Nat) (vs:List Value):Kp B w (w1.setCells b o vs):=by
 have hs:Below w.heap.size w1 (w1.setCells b o vs):=dt.below_setCells b vs o w1 (Below.refl _ _) hb
 exact ⟨hs.os.trans h.os,hs.tape.trans h.tape,hs.output.trans h.output,Nat.le_trans h.size hs.size,fun k hk hB => (hs.block k hk).trans (h.block k hk hB)⟩
def ptr (B:Nat):Value:=.pointer (some ⟨B,0,none⟩)
theorem blank_ok (B p:Nat) (c:Cu) (w:World) (h:CurAt w B p c):Calls Tryz.prog 68 #[ptr B] w fun e w' => e = .returned (.bool false) ∧ w' = w:=by
 obtain ⟨cap,h1,h2,h3,h4⟩:=h.box
 have hn:((c.ts.length:Int) == 0) = false:=by have:=h.ok.lt;rw [beq_eq_false_iff_ne];omega
 have d0:w.cell? ⟨B,0,none⟩ = some (.slice (some ⟨p,0,none⟩) c.ts.length cap):=(dt.cell_cells h1 0).trans rfl
 unfold ptr
 clear h h1 h4
 go_enter Tryz.func68,Tryz.ntmps68
 go_wp2
 go_ret
 exact ⟨rfl,rfl⟩
theorem dead_ok (B p:Nat) (c:Cu) (w:World) (h:CurAt w B p c):Calls Tryz.prog 61 #[ptr B] w fun e w' => e = .returned (.bool (c.kd != 0)) ∧ w' = w:=by
 have hb:=Hi (blank_ok B p c w h)
 obtain ⟨cap,h1,h2,h3,h4⟩:=h.box
 have d4:w.cell? ⟨B,4,none⟩ = some (.int .i64 c.kd):=(dt.cell_cells h1 4).trans rfl
 obtain ⟨kd,hk⟩:∃ kd,kd = c.kd:=⟨_,rfl⟩
 rw [← hk] at d4 ⊢
 clear h h1 h4 hk
 unfold ptr at hb ⊢
 go_enter Tryz.func61,Tryz.ntmps61
 go_wp2_with fail
 refine (uh hb).mono ?_
 rintro e w1 ⟨rfl,rfl⟩
 go_wp2
 go_ret
 exact ⟨rfl,rfl⟩
theorem token_ok (B p:Nat) (c:Cu) (w:World) (h:CurAt w B p c):Calls Tryz.prog 29 #[ptr B] w fun e w' => e = .returned (.agg c.tok.cells.toArray) ∧ Below w.heap.size w w':=by
 have hb:=Hi (fun W (bb:Below w.heap.size w W) => blank_ok B p c W (h.below bb))
 have hlt:=h.lt
 have hix:=h.ok.lt
 have hlen:=h.len
 obtain ⟨cap,h1,h2,h3,h4⟩:=h.box
 have hr:=h4 c.ix c.tok (c.get hix)
 have d0:w.cell? ⟨B,0,none⟩ = some (.slice (some ⟨p,0,none⟩) c.ts.length cap):=(dt.cell_cells h1 0).trans rfl
 have d1:w.cell? ⟨B,1,none⟩ = some (.int .i64 c.ix):=(dt.cell_cells h1 1).trans rfl
 obtain ⟨ix,hk⟩:∃ ix,ix = c.ix:=⟨_,rfl⟩
 obtain ⟨n,hk2⟩:∃ n,n = c.ts.length:=⟨_,rfl⟩
 obtain ⟨t,hk3⟩:∃ t,t = c.tok:=⟨_,rfl⟩
 rw [← hk,← hk2] at hix
 rw [← hk2] at d0 hlen
 rw [← hk] at d1 hr
 rw [← hk3] at hr ⊢
 clear h h1 h4 hk hk2 hk3
 have bA:∀ o,Below w.heap.size w (w.alloc o):=fun o => ba
 have D0:∀ o,(w.alloc o).cell? ⟨B,0,none⟩ = some (.slice (some ⟨p,0,none⟩) n cap):=fun o => ((bA o).cell (p:=⟨B,0,none⟩) hlt).trans d0
 have D1:∀ o,(w.alloc o).cell? ⟨B,1,none⟩ = some (.int .i64 ix):=fun o => ((bA o).cell (p:=⟨B,1,none⟩) hlt).trans d1
 have hR:=Hi (fun o => hr.below (bA o))
 have HA:=Hi bA
 clear d0 d1 hr bA
 have ii:(ix:Int) < (n:Int):=by omega
 unfold ptr at hb ⊢
 go_enter Tryz.func29,Tryz.ntmps29
 go_wp2_with fail
 refine ((uh hb) _ ((uh HA) _)).mono ?_
 rintro e w1 ⟨rfl,rfl⟩
 clear hb
 have E:∀ (j:Nat) (u:Value) o,t.cells[j]? = some u → (w.alloc o).cell? ⟨p,ix * 7 + j,none⟩ = some u:=fun j u o hu => (uh hR) o j u hu
 have e0:∀ o,(w.alloc o).cell? ⟨p,ix * 7,none⟩ = some (.int .i64 t.k):=fun o => E 0 _ o rfl
 have e1:∀ o,(w.alloc o).cell? ⟨p,ix * 7 + 1,none⟩ = some (.int .i64 t.ln):=fun o => E 1 _ o rfl
 have e2:∀ o,(w.alloc o).cell? ⟨p,ix * 7 + 2,none⟩ = some (.int .i64 t.co):=fun o => E 2 _ o rfl
 have e3:∀ o,(w.alloc o).cell? ⟨p,ix * 7 + 3,none⟩ = some (.int .i64 t.fr):=fun o => E 3 _ o rfl
 have e4:∀ o,(w.alloc o).cell? ⟨p,ix * 7 + 4,none⟩ = some (.int .i64 t.to):=fun o => E 4 _ o rfl
 have e5:∀ o,(w.alloc o).cell? ⟨p,ix * 7 + 5,none⟩ = some (.string t.tx):=fun o => E 5 _ o rfl
 have e6:∀ o,(w.alloc o).cell? ⟨p,ix * 7 + 6,none⟩ = some (.string t.va):=fun o => E 6 _ o rfl
 clear E hR
 go_wp2_with fail
 go_region
 go_wp2
 refine bodyPost_ret (rgn.result_row rfl _ _ w.heap.size 0 t.cells _ rfl (dt.range_cells (heap_alloc_new w _) 0 t.cells (fun j u hu => by rw [Nat.zero_add];simpa [Tk.cells] using hu)) Tryz.underlying77 rfl lx.infoTk) rfl ?_
 exact ⟨rfl,Go.below_drewN ((uh HA) _) 1⟩
theorem fld_kind (t:Tk) (w:World):(Instr.field 77 (.agg #[.int .i64 t.k,.int .i64 t.ln,.int .i64 t.co,.int .i64 t.fr,.int .i64 t.to,.string t.tx,.string t.va]) 0).run Tryz.prog w = .ok (.int .i64 t.k) w:=by
 kernel_rfl
theorem fld_text (t:Tk) (w:World):(Instr.field 77 (.agg #[.int .i64 t.k,.int .i64 t.ln,.int .i64 t.co,.int .i64 t.fr,.int .i64 t.to,.string t.tx,.string t.va]) 4).run Tryz.prog w = .ok (.string t.tx) w:=by
 kernel_rfl
theorem fld_pos (t:Tk) (w:World):(Instr.field 77 (.agg #[.int .i64 t.k,.int .i64 t.ln,.int .i64 t.co,.int .i64 t.fr,.int .i64 t.to,.string t.tx,.string t.va]) 1).run Tryz.prog w = .ok (.agg #[.int .i64 t.ln,.int .i64 t.co]) w:=by
 kernel_rfl
end Go.Proofs.YtepmbmbnlmbhhaaGreat.cu
