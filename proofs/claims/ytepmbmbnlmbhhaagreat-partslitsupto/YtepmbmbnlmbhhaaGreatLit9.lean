import Derived.Test.YtepmbmbnlmbhhaaGreatLit8
set_option linter.unusedVariables false
set_option linter.unusedSimpArgs false
namespace Go.Proofs.YtepmbmbnlmbhhaaGreat.cu
open Go.ChangeShapes Go.WideShapes Go.ChangeAt Go.RowKit
open ints (Hi uh)
open dt (Dt Kp RowAt Ow Grow)
open dt (Dt Kp RowAt Ow)
theorem infoLt:(Tryz.prog.info? 33).map (·.size) = some 7:=by kernel_rfl
def leafC (k:Int) (tx:ByteArray) (bl:Bool) (ln co:Int):List Value:=[.int .i64 k,.string tx,.bool bl,.slice none 0 0,.slice none 0 0,.int .i64 ln,.int .i64 co]
theorem leaf_ow (w:World) (k:Int) (tx:ByteArray) (bl:Bool) (ln co:Int):Ow w (litD k tx bl .nil .nil ln co) (leafC k tx bl ln co) []:=by
 unfold litD leafC
 simp only [Ow]
 refine ⟨_,rfl,rfl,_,rfl,rfl,_,rfl,rfl,none,0,0,_,[],[],rfl,Nat.le_refl _,Nat.zero_le _,fun _ => rfl,.inl ⟨rfl,by simp⟩,⟨none,0,0,_,[],[],rfl,Nat.le_refl _,Nat.zero_le _,fun _ => rfl,.inl ⟨rfl,by simp⟩,⟨_,rfl,rfl,_,rfl,rfl,rfl,rfl⟩,rfl⟩,rfl⟩
def zeroD:Dt:=litD 0 em false .nil .nil 0 0
set_option maxRecDepth 4000 in
theorem leaf_ok (B p:Nat) (c:Cu) (k:Int) (tx:ByteArray) (w:World) (h:CurAt w B p c) (hm:c.ix + 1 < c.ts.length):Calls Tryz.prog 62 #[ptr B,.int .i64 k,.string tx] w fun e w' =>
  e = .returned (.agg (leafC k tx false c.tok.ln c.tok.co).toArray) ∧ CurAt w' B p c.take ∧ Kp B w w':=by
 have hr:=Hi (fun W (bb:Below w.heap.size w W) => take_ok B p c W (h.below bb) hm)
 have hlt:=h.lt
 have hplt:=h.plt
 have hne:B ≠ w.heap.size:=by omega
 have hnp:p ≠ w.heap.size:=by omega
 have bA:=Hi (fun o => show Below w.heap.size w (w.alloc o) from ba)
 have hZ:=Hi (fun o W (hk:Kp B (w.alloc o) W) => show W.heap[w.heap.size]? = some o from (hk.block w.heap.size (by simp) (by omega)).trans (heap_alloc_new w o))
 have hf2:=fld_pos c.tok
 obtain ⟨t,ht⟩:∃ t,t = c.tok:=⟨_,rfl⟩
 rw [← ht] at hr hf2 ⊢
 clear ht h
 unfold Tk.cells at hr
 unfold ptr at hr ⊢
 go_enter Tryz.func62,Tryz.ntmps62
 go_wp2_with fail
 refine ((uh hr) _ ((uh bA) _)).mono ?_
 rintro e w1 ⟨rfl,hc,hk⟩
 have hth:w1.there w.heap.size 0 7:=dt.there_cells ((uh hZ) _ w1 hk) (by decide)
 have HK:=Hi ((Kp.of ((uh bA) _)).trans hk)
 have HC:=Hi hc
 clear hr hk hc hZ bA
 go_wp2_with (first
  | refine wpList_store_mid (by rfl) 33 _ _ (by rfl) w.heap.size 0 #[.int .i64 k,.string tx,.bool false,.slice none 0 0,.slice none 0 0,.int .i64 t.ln,.int .i64 t.co] (by rfl) (by rfl) hth infoLt (dt.one_cells (cs:=[.int .i64 k,.string tx,.bool false,.slice none 0 0,.slice none 0 0,.int .i64 t.ln,.int .i64 t.co]) (by rfl)) ?_)
 refine bodyPost_ret (rgn.result_row rfl _ _ w.heap.size 0 [.int .i64 k,.string tx,.bool false,.slice none 0 0,.slice none 0 0,.int .i64 t.ln,.int .i64 t.co] _ rfl (World.rangeAt_setCells_same _ _ _ _ hth) Tryz.underlying33 rfl infoLt) rfl ?_
 exact ⟨rfl,(uh HC).out hne hnp _ _,(uh HK).out (Nat.le_refl _) _ _⟩
def wordC (t:Tk) (tx:ByteArray):List Value:=if tx = bTrue ∨ tx = bFalse then leafC 5 tx false t.ln t.co else if tx = bNull then leafC 6 em false t.ln t.co else leafC 7 tx false t.ln t.co
theorem str_lit {a:ByteArray} {l:List UInt8} (h:(⟨l.toArray⟩:ByteArray).toList = l):(a.toList == l) = decide (a = ⟨l.toArray⟩):=by
 rw [← str_beq,h]
set_option maxRecDepth 4000 in
theorem word_ok (B p:Nat) (c:Cu) (tx:ByteArray) (w:World) (h:CurAt w B p c) (hm:c.ix + 1 < c.ts.length):Calls Tryz.prog 63 #[ptr B,.string tx] w fun e w' =>
  e = .returned (.agg (wordC c.tok tx).toArray) ∧ CurAt w' B p c.take ∧ Kp B w w':=by
 have hr:=Hi (fun k s W (bb:Below w.heap.size w W) => leaf_ok B p c k s W (h.below bb) hm)
 have hlt:=h.lt
 have hplt:=h.plt
 have hne:B ≠ w.heap.size:=by omega
 have hnp:p ≠ w.heap.size:=by omega
 have bA:=Hi (fun o => show Below w.heap.size w (w.alloc o) from ba)
 have hZ:=Hi (fun o W (hk:Kp B (w.alloc o) W) => show W.heap[w.heap.size]? = some o from (hk.block w.heap.size (by simp) (by omega)).trans (heap_alloc_new w o))
 obtain ⟨t,ht⟩:∃ t,t = c.tok:=⟨_,rfl⟩
 rw [← ht] at hr ⊢
 clear ht h
 unfold leafC at hr
 unfold ptr at hr ⊢
 by_cases h1:tx = bTrue
 ·have hW:=Hi (show wordC t tx = leafC 5 tx false t.ln t.co from by unfold wordC;rw [if_pos (.inl h1)])
  have e1:(tx.toList == [116,114,117,101]) = true:=by rw [str_lit (by rw [ByteArray.toList_eq])];exact decide_eq_true h1
  clear h1
  go_enter Tryz.func63,Tryz.ntmps63
  go_wp2_with fail
  refine ((uh hr) 5 tx _ ((uh bA) _)).mono ?_
  rintro e w1 ⟨rfl,hc,hk⟩
  have hth:w1.there w.heap.size 0 7:=dt.there_cells ((uh hZ) _ w1 hk) (by decide)
  have HK:=Hi ((Kp.of ((uh bA) _)).trans hk)
  have HC:=Hi hc
  clear hr hk hc hZ bA
  go_wp2_with (first
   | refine wpList_store_mid (by rfl) 33 _ _ (by rfl) w.heap.size 0 #[.int .i64 5,.string tx,.bool false,.slice none 0 0,.slice none 0 0,.int .i64 t.ln,.int .i64 t.co] (by rfl) (by rfl) hth infoLt (dt.one_cells (cs:=[.int .i64 5,.string tx,.bool false,.slice none 0 0,.slice none 0 0,.int .i64 t.ln,.int .i64 t.co]) (by rfl)) ?_)
  refine bodyPost_ret (rgn.result_row rfl _ _ w.heap.size 0 [.int .i64 5,.string tx,.bool false,.slice none 0 0,.slice none 0 0,.int .i64 t.ln,.int .i64 t.co] _ rfl (World.rangeAt_setCells_same _ _ _ _ hth) Tryz.underlying33 rfl infoLt) rfl ?_
  exact ⟨by rw [uh hW];rfl,(uh HC).out hne hnp _ _,(uh HK).out (Nat.le_refl _) _ _⟩
 by_cases h2:tx = bFalse
 ·have hW:=Hi (show wordC t tx = leafC 5 tx false t.ln t.co from by unfold wordC;rw [if_pos (.inr h2)])
  have e1:(tx.toList == [116,114,117,101]) = false:=by rw [str_lit (by rw [ByteArray.toList_eq])];exact decide_eq_false h1
  have e2:(tx.toList == [102,97,108,115,101]) = true:=by rw [str_lit (by rw [ByteArray.toList_eq])];exact decide_eq_true h2
  clear h1 h2
  go_enter Tryz.func63,Tryz.ntmps63
  go_wp2_with fail
  refine ((uh hr) 5 tx _ ((uh bA) _)).mono ?_
  rintro e w1 ⟨rfl,hc,hk⟩
  have hth:w1.there w.heap.size 0 7:=dt.there_cells ((uh hZ) _ w1 hk) (by decide)
  have HK:=Hi ((Kp.of ((uh bA) _)).trans hk)
  have HC:=Hi hc
  clear hr hk hc hZ bA
  go_wp2_with (first
   | refine wpList_store_mid (by rfl) 33 _ _ (by rfl) w.heap.size 0 #[.int .i64 5,.string tx,.bool false,.slice none 0 0,.slice none 0 0,.int .i64 t.ln,.int .i64 t.co] (by rfl) (by rfl) hth infoLt (dt.one_cells (cs:=[.int .i64 5,.string tx,.bool false,.slice none 0 0,.slice none 0 0,.int .i64 t.ln,.int .i64 t.co]) (by rfl)) ?_)
  refine bodyPost_ret (rgn.result_row rfl _ _ w.heap.size 0 [.int .i64 5,.string tx,.bool false,.slice none 0 0,.slice none 0 0,.int .i64 t.ln,.int .i64 t.co] _ rfl (World.rangeAt_setCells_same _ _ _ _ hth) Tryz.underlying33 rfl infoLt) rfl ?_
  exact ⟨by rw [uh hW];rfl,(uh HC).out hne hnp _ _,(uh HK).out (Nat.le_refl _) _ _⟩
 have e1:(tx.toList == [116,114,117,101]) = false:=by rw [str_lit (by rw [ByteArray.toList_eq])];exact decide_eq_false h1
 have e2:(tx.toList == [102,97,108,115,101]) = false:=by rw [str_lit (by rw [ByteArray.toList_eq])];exact decide_eq_false h2
 by_cases h3:tx = bNull
 ·have hW:=Hi (show wordC t tx = leafC 6 em false t.ln t.co from by unfold wordC;rw [if_neg (fun e => e.elim h1 h2),if_pos h3])
  have e3:(tx.toList == [110,117,108,108]) = true:=by rw [str_lit (by rw [ByteArray.toList_eq])];exact decide_eq_true h3
  clear h1 h2 h3
  go_enter Tryz.func63,Tryz.ntmps63
  go_wp2_with fail
  refine ((uh hr) 6 ⟨#[]⟩ _ ((uh bA) _)).mono ?_
  rintro e w1 ⟨rfl,hc,hk⟩
  have hth:w1.there w.heap.size 0 7:=dt.there_cells ((uh hZ) _ w1 hk) (by decide)
  have HK:=Hi ((Kp.of ((uh bA) _)).trans hk)
  have HC:=Hi hc
  clear hr hk hc hZ bA
  go_wp2_with (first
   | refine wpList_store_mid (by rfl) 33 _ _ (by rfl) w.heap.size 0 #[.int .i64 6,.string ⟨#[]⟩,.bool false,.slice none 0 0,.slice none 0 0,.int .i64 t.ln,.int .i64 t.co] (by rfl) (by rfl) hth infoLt (dt.one_cells (cs:=[.int .i64 6,.string ⟨#[]⟩,.bool false,.slice none 0 0,.slice none 0 0,.int .i64 t.ln,.int .i64 t.co]) (by rfl)) ?_)
  refine bodyPost_ret (rgn.result_row rfl _ _ w.heap.size 0 [.int .i64 6,.string ⟨#[]⟩,.bool false,.slice none 0 0,.slice none 0 0,.int .i64 t.ln,.int .i64 t.co] _ rfl (World.rangeAt_setCells_same _ _ _ _ hth) Tryz.underlying33 rfl infoLt) rfl ?_
  exact ⟨by rw [uh hW];rfl,(uh HC).out hne hnp _ _,(uh HK).out (Nat.le_refl _) _ _⟩
 ·have hW:=Hi (show wordC t tx = leafC 7 tx false t.ln t.co from by unfold wordC;rw [if_neg (fun e => e.elim h1 h2),if_neg h3])
  have e3:(tx.toList == [110,117,108,108]) = false:=by rw [str_lit (by rw [ByteArray.toList_eq])];exact decide_eq_false h3
  clear h1 h2 h3
  go_enter Tryz.func63,Tryz.ntmps63
  go_wp2_with fail
  refine ((uh hr) 7 tx _ ((uh bA) _)).mono ?_
  rintro e w1 ⟨rfl,hc,hk⟩
  have hth:w1.there w.heap.size 0 7:=dt.there_cells ((uh hZ) _ w1 hk) (by decide)
  have HK:=Hi ((Kp.of ((uh bA) _)).trans hk)
  have HC:=Hi hc
  clear hr hk hc hZ bA
  go_wp2_with (first
   | refine wpList_store_mid (by rfl) 33 _ _ (by rfl) w.heap.size 0 #[.int .i64 7,.string tx,.bool false,.slice none 0 0,.slice none 0 0,.int .i64 t.ln,.int .i64 t.co] (by rfl) (by rfl) hth infoLt (dt.one_cells (cs:=[.int .i64 7,.string tx,.bool false,.slice none 0 0,.slice none 0 0,.int .i64 t.ln,.int .i64 t.co]) (by rfl)) ?_)
  refine bodyPost_ret (rgn.result_row rfl _ _ w.heap.size 0 [.int .i64 7,.string tx,.bool false,.slice none 0 0,.slice none 0 0,.int .i64 t.ln,.int .i64 t.co] _ rfl (World.rangeAt_setCells_same _ _ _ _ hth) Tryz.underlying33 rfl infoLt) rfl ?_
  exact ⟨by rw [uh hW];rfl,(uh HC).out hne hnp _ _,(uh HK).out (Nat.le_refl _) _ _⟩
def varC (c:Cu):List Value:=if c.take.isN then leafC 1 c.take.tok.tx false c.tok.ln c.tok.co else leafC 0 em false 0 0
set_option maxRecDepth 4000 in
set_option maxHeartbeats 1000000 in
theorem var_ok (B p:Nat) (c:Cu) (w:World) (h:CurAt w B p c) (hm:c.ix + 1 < c.ts.length):Calls Tryz.prog 64 #[ptr B] w fun e w' =>
  e = .returned (.tuple #[.agg (varC c).toArray,.bool c.take.isN]) ∧ CurAt w' B p c.take.name ∧ Kp B w w':=by
 have hr:=Hi (fun W (bb:Below w.heap.size w W) => take_ok B p c W (h.below bb) hm)
 have hn:=Hi (fun W (hc:CurAt W B p c.take) => nameAny_ok B p c.take W hc)
 have hlt:=h.lt
 have hplt:=h.plt
 have hne:B ≠ w.heap.size:=by omega
 have hnp:p ≠ w.heap.size:=by omega
 have bA:=Hi (fun o => show Below w.heap.size w (w.alloc o) from ba)
 have hZ:=Hi (fun o W (hk:Kp B (w.alloc o) W) => show W.heap[w.heap.size]? = some o from (hk.block w.heap.size (by simp) (by omega)).trans (heap_alloc_new w o))
 have hV:=Hi (show varC c = if c.take.isN then leafC 1 c.take.tok.tx false c.tok.ln c.tok.co else leafC 0 em false 0 0 from rfl)
 rw [nmT_form] at hn
 obtain ⟨t,ht⟩:∃ t,t = c.tok:=⟨_,rfl⟩
 rw [← ht] at hr hV
 obtain ⟨V,hVe⟩:∃ V,V = varC c:=⟨_,rfl⟩
 rw [← hVe] at hV ⊢
 clear ht h hVe
 unfold Tk.cells at hr
 unfold ptr at hr hn ⊢
 obtain ⟨A,hA⟩:∃ A,A = if c.take.isN then c.take.tok.tx else em:=⟨_,rfl⟩
 obtain ⟨X,hX⟩:∃ X,X = if c.take.isN then c.take.tok.ln else 0:=⟨_,rfl⟩
 obtain ⟨Y,hY⟩:∃ Y,Y = if c.take.isN then c.take.tok.co else 0:=⟨_,rfl⟩
 rw [← hA,← hX,← hY] at hn
 have HA:=Hi hA
 clear hA hX hY
 obtain ⟨R,hR⟩:∃ R,R = c.take.isN:=⟨_,rfl⟩
 rw [← hR] at hn hV HA ⊢
 clear hR
 cases R
 ·have hV2:=Hi (show V = leafC 0 em false 0 0 from uh hV)
  go_enter Tryz.func64,Tryz.ntmps64
  go_wp2_with fail
  refine ((uh hr) _ ((uh bA) _)).mono ?_
  rintro e w1 ⟨rfl,hc1,hk1⟩
  have hz1:w.heap.size < w1.heap.size:=by have:=hk1.size;simp at this;omega
  go_wp2_with fail
  refine ((uh hn) _ (hc1.below (ba))).mono ?_
  rintro e w2 ⟨rfl,hc2,hk2⟩
  have hk12:=hk1.trans ((Kp.of (ba)).trans hk2)
  have hR2:=(uh hZ) _ w2 hk12
  have hz2:w.heap.size < w2.heap.size:=by have:=hk2.size;simp at this;omega
  have HT:=Hi (fun o => dt.there_cells ((Below.heap_alloc w2 o w.heap.size hz2).trans hR2) (o:=0) (n:=7) (by decide))
  have HK:=Hi ((Kp.of ((uh bA) _)).trans hk12)
  have HC:=Hi hc2
  clear hr hn hk1 hk2 hk12 hc1 hc2 hZ bA hR2
  go_wp2_with (first
   | refine wpList_store_mid (by rfl) 33 _ _ (by rfl) w.heap.size 0 #[.int .i64 0,.string ⟨#[]⟩,.bool false,.slice none 0 0,.slice none 0 0,.int .i64 0,.int .i64 0] (by rfl) (by rfl) ((uh HT) _) infoLt (dt.one_cells (cs:=[.int .i64 0,.string ⟨#[]⟩,.bool false,.slice none 0 0,.slice none 0 0,.int .i64 0,.int .i64 0]) (by rfl)) ?_)
  refine bodyPost_ret (rgn.result_row_tmp rfl _ _ w.heap.size 0 [.int .i64 0,.string ⟨#[]⟩,.bool false,.slice none 0 0,.slice none 0 0,.int .i64 0,.int .i64 0] _ rfl (World.rangeAt_setCells_same _ _ _ _ ((uh HT) _)) Tryz.underlying33 rfl infoLt) rfl ?_
  exact ⟨by rw [uh hV2];rfl,((uh HC).below (ba)).out hne hnp _ _,((uh HK).trans (Kp.of (ba))).out (Nat.le_refl _) _ _⟩
 ·have hV2:=Hi (show V = leafC 1 A false t.ln t.co from by rw [uh hV,uh HA];rfl)
  go_enter Tryz.func64,Tryz.ntmps64
  go_wp2_with fail
  refine ((uh hr) _ ((uh bA) _)).mono ?_
  rintro e w1 ⟨rfl,hc1,hk1⟩
  have hz1:w.heap.size < w1.heap.size:=by have:=hk1.size;simp at this;omega
  go_wp2_with fail
  refine ((uh hn) _ (hc1.below (ba))).mono ?_
  rintro e w2 ⟨rfl,hc2,hk2⟩
  have hD2:=(hk2.block w1.heap.size (by simp) (by have:=hc1.lt;omega)).trans (heap_alloc_new w1 _)
  have hk12:=hk1.trans ((Kp.of (ba)).trans hk2)
  have hR2:=(uh hZ) _ w2 hk12
  have hz2:w.heap.size < w2.heap.size:=by have:=hk2.size;simp at this;omega
  have hz3:w1.heap.size < w2.heap.size:=by have:=hk2.size;simp at this;omega
  have d1:∀ o,(w2.alloc o).cell? ⟨w1.heap.size,1,none⟩ = some (.int .i64 t.ln):=fun o => (dt.cell_cells ((Below.heap_alloc w2 o w1.heap.size hz3).trans hD2) 1).trans rfl
  have d2:∀ o,(w2.alloc o).cell? ⟨w1.heap.size,2,none⟩ = some (.int .i64 t.co):=fun o => (dt.cell_cells ((Below.heap_alloc w2 o w1.heap.size hz3).trans hD2) 2).trans rfl
  have HT:=Hi (fun o => dt.there_cells ((Below.heap_alloc w2 o w.heap.size hz2).trans hR2) (o:=0) (n:=7) (by decide))
  have HK:=Hi ((Kp.of ((uh bA) _)).trans hk12)
  have HC:=Hi hc2
  clear hr hn hk1 hk2 hk12 hc1 hc2 hZ bA hR2 hD2
  go_wp2_with (first
   | refine wpList_store_mid (by rfl) 33 _ _ (by rfl) w.heap.size 0 #[.int .i64 1,.string A,.bool false,.slice none 0 0,.slice none 0 0,.int .i64 t.ln,.int .i64 t.co] (by rfl) (by rfl) ((uh HT) _) infoLt (dt.one_cells (cs:=[.int .i64 1,.string A,.bool false,.slice none 0 0,.slice none 0 0,.int .i64 t.ln,.int .i64 t.co]) (by rfl)) ?_)
  refine bodyPost_ret (rgn.result_row_tmp rfl _ _ w.heap.size 0 [.int .i64 1,.string A,.bool false,.slice none 0 0,.slice none 0 0,.int .i64 t.ln,.int .i64 t.co] _ rfl (World.rangeAt_setCells_same _ _ _ _ ((uh HT) _)) Tryz.underlying33 rfl infoLt) rfl ?_
  exact ⟨by rw [uh hV2];rfl,((uh HC).below (ba)).out hne hnp _ _,((uh HK).trans (Kp.of (ba))).out (Nat.le_refl _) _ _⟩
theorem infoAr:(Tryz.prog.info? 123).map (·.size) = some 10:=by kernel_rfl
theorem infoLf:(Tryz.prog.info? 59).map (·.size) = some 10:=by kernel_rfl
def LShape (cs:List Value):Prop:=∃ (k:Int) (tx:ByteArray) (bl:Bool) (ai:Option Addr) (ni ci:Nat) (af:Option Addr) (nf cf:Nat) (ln co:Int),cs = [.int .i64 k,.string tx,.bool bl,.slice ai ni ci,.slice af nf cf,.int .i64 ln,.int .i64 co]
theorem leaf_shape (k:Int) (tx:ByteArray) (bl:Bool) (ln co:Int):LShape (leafC k tx bl ln co):=⟨k,tx,bl,none,0,0,none,0,0,ln,co,rfl⟩
structure LitPost (d:Dt) (w w':World) (cs:List Value) (F:List Nat):Prop where
 shape:LShape cs
 own:Ow w' d cs F
 nodup:F.Nodup
 rng:∀ b ∈ F,w.heap.size ≤ b ∧ b < w'.heap.size
def LitAt (L:Cu → Option Dt × Cu) (ct:Bool) (c:Cu):Prop:=∀ (B p:Nat) (w:World),CurAt w B p c → Calls Tryz.prog 17 #[ptr B,.bool ct] w fun e w' => ∃ cs F,e = .returned (.tuple #[.agg cs.toArray,.bool (L c).1.isSome]) ∧ LitPost ((L c).1.getD zeroD) w w' cs F ∧ CurAt w' B p (L c).2 ∧ Kp B w w'
def fldZ:Dt:=fldD em zeroD 0 0
structure FldPost (d:Dt) (w w':World) (cs:List Value) (F:List Nat):Prop where
 shape:∃ nm ds ln co,LShape ds ∧ cs = Value.string nm :: (ds ++ [.int .i64 ln,.int .i64 co])
 own:Ow w' d cs F
 nodup:F.Nodup
 rng:∀ b ∈ F,w.heap.size ≤ b ∧ b < w'.heap.size
def FldAt (f:Nat) (E:Cu → Option Dt × Cu) (ct:Bool) (c:Cu):Prop:=∀ (B p:Nat) (w:World),CurAt w B p c → Calls Tryz.prog f #[ptr B,.bool ct] w fun e w' => ∃ cs F,e = .returned (.tuple #[.agg cs.toArray,.bool (E c).1.isSome]) ∧ FldPost ((E c).1.getD fldZ) w w' cs F ∧ CurAt w' B p (E c).2 ∧ Kp B w w'
theorem ow_app {w:World}:∀ (d e:Dt) (cs ds:List Value) (F G:List Nat),Ow w d cs F → Ow w e ds G → Ow w (app d e) (cs ++ ds) (F ++ G)
 | .nil,e,cs,ds,F,G,h,h' => by
  unfold Ow at h
  obtain ⟨rfl,rfl⟩:=h
  exact h'
 | .val v r,e,cs,ds,F,G,h,h' => by
  unfold Ow at h
  obtain ⟨xs,rfl,h1,h2⟩:=h
  unfold app Ow
  exact ⟨xs ++ ds,rfl,h1,ow_app r e xs ds F G h2 h'⟩
 | .lst k rs r,e,cs,ds,F,G,h,h' => by
  unfold Ow at h
  obtain ⟨a,n,c,xs,F1,F2,rfl,h1,h2,h3,h4,h5,rfl⟩:=h
  unfold app Ow
  exact ⟨a,n,c,xs ++ ds,F1,F2 ++ G,rfl,h1,h2,h3,h4,ow_app r e xs ds F2 G h5 h',by simp⟩
 | .row _ _,e,cs,ds,F,G,h,h' => by unfold Ow at h;exact h.elim
theorem pos_ow (w:World) (x y:Int):Ow w (.val (.int .i64 x) (.val (.int .i64 y) .nil)) [.int .i64 x,.int .i64 y] []:=by
 unfold Ow
 refine ⟨_,rfl,rfl,?_⟩
 unfold Ow
 refine ⟨_,rfl,rfl,?_⟩
 unfold Ow
 exact ⟨rfl,rfl⟩
theorem fld_ow {w:World} {nm:ByteArray} {v:Dt} {cs:List Value} {F:List Nat} (h:Ow w v cs F) (x y:Int):Ow w (fldD nm v x y) (.string nm :: (cs ++ [.int .i64 x,.int .i64 y])) F:=by
 unfold fldD Ow
 refine ⟨_,rfl,rfl,?_⟩
 have:=ow_app v _ cs _ F [] h (pos_ow w x y)
 simpa using this
theorem ow_kp {w w':World} {B lo:Nat} {d:Dt} {cs:List Value} {F:List Nat} (h:Ow w d cs F) (hk:Kp B w w') (hB:B < lo) (hr:∀ b ∈ F,lo ≤ b ∧ b < w.heap.size):Ow w' d cs F:=
 Ow.agree d cs F (fun b hb o => hk.cell (hr b hb).2 (by have:=(hr b hb).1;omega)) h
theorem ow_below {w w':World} {d:Dt} {cs:List Value} {F:List Nat} (h:Ow w d cs F) (hk:Below w.heap.size w w') (hr:∀ b ∈ F,b < w.heap.size):Ow w' d cs F:=
 Ow.agree d cs F (fun b hb o => hk.cell (p:=⟨b,o,none⟩) (hr b hb)) h
theorem ow_out {w:World} {d:Dt} {cs:List Value} {F:List Nat} (h:Ow w d cs F) {b:Nat} (hb:b ∉ F) (o:Nat) (vs:List Value):Ow (w.setCells b o vs) d cs F:=
 Ow.agree d cs F (fun c hc j => dt.cell_blk (dt.heap_setCells b c (fun e => hb (e ▸ hc)) vs o w) j) h
set_option maxRecDepth 4000 in
set_option maxHeartbeats 1000000 in
theorem arg_ok (L:Cu → Option Dt × Cu) (ct:Bool) (c:Cu) (hc0:c.Ok) (hL:LitAt L ct (c.name.want bCol)) (hdead:(L (c.name.want bCol)).1.isSome = true → c.isN = true):FldAt 89 (argS L) ct c:=by
 intro B p w h
 have hn:=Hi (fun W (bb:Below w.heap.size w W) => nameAny_ok B p c W (h.below bb))
 have hw:=Hi (fun W (hc:CurAt W B p c.name) => want_ok B p c.name bCol W hc)
 have hl:=Hi (fun W (hc:CurAt W B p (c.name.want bCol)) => hL B p W hc)
 have hlt:=h.lt
 have hplt:=h.plt
 have hne:B ≠ w.heap.size:=by omega
 have hnp:p ≠ w.heap.size:=by omega
 have bA:=Hi (fun o => show Below w.heap.size w (w.alloc o) from ba)
 have hZ:=Hi (fun o W (hk:Kp B (w.alloc o) W) => show W.heap[w.heap.size]? = some o from (hk.block w.heap.size (by simp) (by omega)).trans (heap_alloc_new w o))
 have hs0:=Hi (show (L (c.name.want bCol)).1 = none → argS L c = (none,(L (c.name.want bCol)).2) from fun e => by unfold argS;rw [e])
 have hs1:=Hi (show ∀ v,(L (c.name.want bCol)).1 = some v → argS L c = (some (fldD c.tok.tx v c.tok.ln c.tok.co),(L (c.name.want bCol)).2) from fun v e => by unfold argS;rw [e])
 rw [nmT_form] at hn
 obtain ⟨U,hU⟩:∃ U,U = L (c.name.want bCol):=⟨_,rfl⟩
 rw [← hU] at hl hs0 hs1 hdead
 clear h hL hU
 obtain ⟨r,C⟩:=U
 obtain ⟨A,hA⟩:∃ A,A = if c.isN then c.tok.tx else em:=⟨_,rfl⟩
 obtain ⟨X,hX⟩:∃ X,X = if c.isN then c.tok.ln else 0:=⟨_,rfl⟩
 obtain ⟨Y,hY⟩:∃ Y,Y = if c.isN then c.tok.co else 0:=⟨_,rfl⟩
 rw [← hA,← hX,← hY] at hn
 have HA:=Hi (And.intro hA (And.intro hX hY))
 clear hA hX hY
 unfold ptr at hn hw hl ⊢
 go_enter Tryz.func89,Tryz.ntmps89
 go_wp2_with fail
 refine ((uh hn) _ ((uh bA) _)).mono ?_
 rintro e w1 ⟨rfl,hc1,hk1⟩
 go_wp2_with fail
 refine ((uh hw) _ (hc1.below (ba))).mono ?_
 rintro e w2 ⟨rfl,hc2,hk2⟩
 go_wp2_with fail
 refine ((uh hl) _ hc2).mono ?_
 rintro e w3 ⟨cs,F,rfl,hpo,hc3,hk3⟩
 have hB1:=hc1.lt
 have hk23:=hk2.trans hk3
 have hN3:=(hk23.block w1.heap.size (by simp) (by omega)).trans (heap_alloc_new w1 _)
 have hk13:=hk1.trans ((Kp.of (ba)).trans hk23)
 have hR3:=(uh hZ) _ w3 hk13
 have hz1:w.heap.size < w1.heap.size:=by have:=hk1.size;simp at this;omega
 have hz3:w1.heap.size < w3.heap.size:=by have:=hk23.size;simp at this;omega
 have HK:=Hi ((Kp.of ((uh bA) _)).trans hk13)
 have HC:=Hi hc3
 have hrF:∀ b ∈ F,w1.heap.size < b ∧ b < w3.heap.size:=fun b hb => ⟨by have:=(hpo.rng b hb).1;have:=hk2.size;simp at this;omega,(hpo.rng b hb).2⟩
 obtain ⟨k,tx,bl,ai,ni,ci,af,nf,cf,ln,co,rfl⟩:=hpo.shape
 have HP:=Hi hpo
 have n0:∀ o,(w3.alloc o).cell? ⟨w1.heap.size,0,none⟩ = some (.string A):=fun o => (dt.cell_cells ((Below.heap_alloc w3 o w1.heap.size hz3).trans hN3) 0).trans rfl
 have n1:∀ o,(w3.alloc o).cell? ⟨w1.heap.size,1,none⟩ = some (.int .i64 X):=fun o => (dt.cell_cells ((Below.heap_alloc w3 o w1.heap.size hz3).trans hN3) 1).trans rfl
 have n2:∀ o,(w3.alloc o).cell? ⟨w1.heap.size,2,none⟩ = some (.int .i64 Y):=fun o => (dt.cell_cells ((Below.heap_alloc w3 o w1.heap.size hz3).trans hN3) 2).trans rfl
 have HT:=Hi (fun o => dt.there_cells ((Below.heap_alloc w3 o w.heap.size (by omega)).trans hR3) (o:=0) (n:=10) (by decide))
 clear hn hw hl hk1 hk2 hk3 hk23 hk13 hc1 hc2 hc3 hZ bA hR3 hN3 hpo
 cases r with
 | none =>
  have hs2:=Hi ((uh hs0) rfl)
  clear hs0 hs1
  go_wp2_with (first
   | refine wpList_store_mid (by rfl) 123 _ _ (by rfl) w.heap.size 0 #[.string ⟨#[]⟩,.int .i64 0,.string ⟨#[]⟩,.bool false,.slice none 0 0,.slice none 0 0,.int .i64 0,.int .i64 0,.int .i64 0,.int .i64 0] (by rfl) (by rfl) ((uh HT) _) infoAr (dt.one_cells (cs:=[.string ⟨#[]⟩,.int .i64 0,.string ⟨#[]⟩,.bool false,.slice none 0 0,.slice none 0 0,.int .i64 0,.int .i64 0,.int .i64 0,.int .i64 0]) (by rfl)) ?_)
  refine bodyPost_ret (rgn.result_row_tmp rfl _ _ w.heap.size 0 [.string ⟨#[]⟩,.int .i64 0,.string ⟨#[]⟩,.bool false,.slice none 0 0,.slice none 0 0,.int .i64 0,.int .i64 0,.int .i64 0,.int .i64 0] _ rfl (World.rangeAt_setCells_same _ _ _ _ ((uh HT) _)) Tryz.underlying123 rfl infoAr) rfl ?_
  rw [uh hs2]
  exact ⟨_,[],rfl,⟨⟨em,leafC 0 em false 0 0,0,0,leaf_shape ..,rfl⟩,fld_ow (leaf_ow _ 0 em false 0 0) 0 0,List.nodup_nil,by simp⟩,((uh HC).below (ba)).out hne hnp _ _,((uh HK).trans (Kp.of (ba))).out (Nat.le_refl _) _ _⟩
 | some v =>
  have hs2:=Hi ((uh hs1) v rfl)
  clear hs0 hs1
  go_wp2_with (first
   | refine wpList_store_mid (by rfl) 123 _ _ (by rfl) w.heap.size 0 #[.string A,.int .i64 k,.string tx,.bool bl,.slice ai ni ci,.slice af nf cf,.int .i64 ln,.int .i64 co,.int .i64 X,.int .i64 Y] (by rfl) (by rfl) ((uh HT) _) infoAr (dt.one_cells (cs:=[.string A,.int .i64 k,.string tx,.bool bl,.slice ai ni ci,.slice af nf cf,.int .i64 ln,.int .i64 co,.int .i64 X,.int .i64 Y]) (by rfl)) ?_)
  refine bodyPost_ret (rgn.result_row_tmp rfl _ _ w.heap.size 0 [.string A,.int .i64 k,.string tx,.bool bl,.slice ai ni ci,.slice af nf cf,.int .i64 ln,.int .i64 co,.int .i64 X,.int .i64 Y] _ rfl (World.rangeAt_setCells_same _ _ _ _ ((uh HT) _)) Tryz.underlying123 rfl infoAr) rfl ?_
  have hiN:=hdead rfl
  have hA2:=uh HA
  rw [hiN] at hA2
  have hown:=fld_ow (nm:=A) (ow_out (ow_below (uh HP).own ((Below.refl _ _).alloc (Nat.le_refl _) (.cells #[.int .i64 k,.string tx,.bool bl,.slice ai ni ci,.slice af nf cf,.int .i64 ln,.int .i64 co] 33)) (fun b hb => (hrF b hb).2)) (b:=w.heap.size) (fun hb => by have:=(hrF _ hb).1;omega) 0 [.string A,.int .i64 k,.string tx,.bool bl,.slice ai ni ci,.slice af nf cf,.int .i64 ln,.int .i64 co,.int .i64 X,.int .i64 Y]) X Y
  rw [uh hs2]
  refine ⟨_,F,rfl,⟨⟨A,[.int .i64 k,.string tx,.bool bl,.slice ai ni ci,.slice af nf cf,.int .i64 ln,.int .i64 co],X,Y,⟨k,tx,bl,ai,ni,ci,af,nf,cf,ln,co,rfl⟩,rfl⟩,?_,(uh HP).nodup,fun b hb => ⟨by have:=(hrF b hb).1;omega,by rw [dt.size_setCells];have:=(hrF b hb).2;simp;omega⟩⟩,((uh HC).below (ba)).out hne hnp _ _,((uh HK).trans (Kp.of (ba))).out (Nat.le_refl _) _ _⟩
  show Ow _ (fldD c.tok.tx v c.tok.ln c.tok.co) _ F
  rw [show c.tok.tx = A from hA2.1.symm,show c.tok.ln = X from hA2.2.1.symm,show c.tok.co = Y from hA2.2.2.symm]
  exact hown
end Go.Proofs.YtepmbmbnlmbhhaaGreat.cu
namespace Go.Proofs.YtepmbmbnlmbhhaaGreat.dt
open Go.ChangeShapes Go.WideShapes Go.ChangeAt Go.RowKit
theorem Grow.more {t:TypeId} {size:Nat} {w w':World} {B:Nat} {l:List Dt} {sl sl':Value} {G:List Nat} {d:Dt} {ds:List Value} {F:List Nat} (h:Grow t size w B l sl G) {xss:List (List Value)} (hol:OwL Ow w l xss G) (hx:∀ xs ∈ xss,xs.length = size) (hd:Ow w d ds F) (hn:F.Nodup) (hF:∀ b ∈ F,B ≤ b ∧ b < w.heap.size ∧ b ∉ G ∧ sl.ownBlock ≠ some b) (hl:ds.length = size)
  (hrow:w'.ownsRow B t size sl' (l.length + 1) (xss.flatten ++ ds)) (hs:w.heap.size ≤ w'.heap.size) (hold:∀ b,b < w.heap.size → sl.ownBlock ≠ some b → w'.heap[b]? = w.heap[b]?) (hat:∀ b,sl'.ownBlock = some b → sl.ownBlock = some b ∨ w.heap.size ≤ b):Grow t size w' B (l ++ [d]) sl' (G ++ F):=by
 refine ⟨?_,?_,?_,xss ++ [ds],?_,?_,?_⟩
 ·rw [List.nodup_append]
  exact ⟨h.nodup,hn,fun x hx y hy e => (hF y hy).2.2.1 (e ▸ hx)⟩
 ·intro b hb
  rcases List.mem_append.1 hb with hb | hb
  ·exact ⟨(h.rng b hb).1,Nat.lt_of_lt_of_le (h.rng b hb).2 hs⟩
  ·exact ⟨(hF b hb).1,Nat.lt_of_lt_of_le (hF b hb).2.1 hs⟩
 ·intro b hb e
  have hlt':b < w.heap.size:=by
   rcases List.mem_append.1 hb with hb | hb
   ·exact (h.rng b hb).2
   ·exact (hF b hb).2.1
  rcases hat b e with hat | hat
  ·rcases List.mem_append.1 hb with hb | hb
   ·exact h.own b hb hat
   ·exact (hF b hb).2.2.2 hat
  ·omega
 ·simpa using hrow
 ·refine OwL.agree (fun w w' e cs F => Ow.agree e cs F) (fun b hb j => ?_) (OwL.snoc hd hol)
  rcases List.mem_append.1 hb with hb | hb
  ·exact cell_blk (hold b (h.rng b hb).2 (h.own b hb)) j
  ·exact cell_blk (hold b (hF b hb).2.1 (hF b hb).2.2.2) j
 ·intro xs hxs
  rcases List.mem_append.1 hxs with hxs | hxs
  ·exact hx xs hxs
  ·obtain rfl:xs = ds:=by simpa using hxs
   exact hl
end Go.Proofs.YtepmbmbnlmbhhaaGreat.dt
namespace Go.Proofs.YtepmbmbnlmbhhaaGreat.cu
open Go.ChangeShapes Go.WideShapes Go.ChangeAt Go.RowKit
open ints (Hi uh)
open dt (Dt Kp RowAt Ow Grow)
theorem CurAt.low {w w':World} {B p lo:Nat} {c:Cu} (h:CurAt w B p c) (hb:Below lo w w') (h1:B < lo) (h2:p < lo):CurAt w' B p c:=by
 obtain ⟨cap,h3,h4,h5,h6⟩:=h.box
 exact ⟨h.ok,h.len,cap,(hb.block B h1).trans h3,h4,Nat.lt_of_lt_of_le h5 hb.size,fun i t ht j u hu => (dt.cell_blk (hb.block p h2) _).trans (h6 i t ht j u hu)⟩
theorem _root_.Go.Proofs.YtepmbmbnlmbhhaaGreat.dt.Kp.low {B:Nat} {w w1 w2:World} (h:Kp B w w1) (hb:Below w.heap.size w1 w2):Kp B w w2:=
 ⟨hb.os.trans h.os,hb.tape.trans h.tape,hb.output.trans h.output,Nat.le_trans h.size hb.size,fun k hk hB => (hb.block k hk).trans (h.block k hk hB)⟩
theorem infoLz:∃ i z,Tryz.prog.info? 33 = some i ∧ i.zero = some z ∧ i.size = 7 ∧ i.bytes = 96 ∧ z.cells.size = 7:=by
 have hin:(Tryz.prog.info? 33).map (fun i => (i.bytes,i.size,i.zero.map (·.cells.size))) = some (96,7,some 7):=by kernel_rfl
 cases hq:Tryz.prog.info? 33 with
 | none => simp [hq] at hin
 | some i =>
  simp [hq] at hin
  obtain ⟨h1,h2,z,hz,h3⟩:=hin
  exact ⟨i,z,rfl,hz,h2,h1,h3⟩
def BrkPL (r:Option (List Dt)) (lo:Nat) (w':World) (sl:Value):Prop:=match r with | none => sl = .slice none 0 0 | some l => ∃ G,Grow 33 7 w' lo l sl G
set_option maxRecDepth 4000 in
set_option maxHeartbeats 4000000 in
theorem brkL_ok (E:Cu → Option Dt × Cu) (ct:Bool) (c:Cu) (left right:ByteArray) (hc0:c.Ok) (hlen:c.ts.length ≤ 1099511627777) (hG:Goes E) (hE:∀ cc:Cu,cc.Ok → cc.ts = c.ts → c.ix < cc.ix → LitAt E ct cc) (B p:Nat) (w:World) (h:CurAt w B p c) :
  Calls Tryz.prog 91 #[ptr B,.string left,.string right,.int .i64 0,.bool ct,.func (.func 17) #[ptr B] #[]] w fun e w' => ∃ sl,e = .returned (.tuple #[sl,.bool (brk E left right 0 c).1.isSome]) ∧ BrkPL (brk E left right 0 c).1 w.heap.size w' sl ∧ CurAt w' B p (brk E left right 0 c).2 ∧ Kp B w w':=by
 have en:∀ args w,(callFunc 17 args).run Tryz.prog w = .ok (.enter 17 args) w:=fun _ _ => rfl
 have ho:=Hi (open_ok B p c left w h)
 have hB:=h.lt
 have hp:=h.plt
 cases hO:c.opB left
 ·have hs:=Hi (show brk E left right 0 c = (none,c.opn left) from by unfold brk;rw [hO];rfl)
  rw [hO] at ho
  clear h hE
  unfold ptr at ho ⊢
  go_enter Tryz.func91,Tryz.ntmps91
  go_wp2_with fail
  refine (uh ho).mono ?_
  rintro e w1 ⟨rfl,hc1,hk1⟩
  clear ho
  go_wp2_with fail
  go_ret2
  rw [uh hs]
  exact ⟨_,rfl,rfl,hc1,hk1⟩
 ·have hst:=opn_stp hc0 left
  have hoi:=opn_ix hO
  obtain ⟨R,hR⟩:∃ R,R = brkF E right 0 c.ts.length [] (c.opn left):=⟨_,rfl⟩
  have hs:=Hi (show brk E left right 0 c = R from by unfold brk;rw [hO,hR];rfl)
  rw [hO] at ho
  have HR:=Hi hR.symm
  clear h hR hO
  have hcl:=Hi (fun W (cc:Cu) (hc:CurAt W B p cc) => close_ok B p cc right W hc)
  have hip:=Hi (fun W (cc:Cu) (hc:CurAt W B p cc) => isPunct_ok B p cc right W hc)
  have hEE:=Hi (fun (cc:Cu) (h1:cc.Ok) (h2:cc.ts = c.ts) (h3:c.ix < cc.ix) => hE cc h1 h2 h3 B p)
  clear hE
  unfold ptr at ho hcl hip hEE ⊢
  go_enter Tryz.func91,Tryz.ntmps91
  go_wp2_with fail
  refine (uh ho).mono ?_
  rintro e w1 ⟨rfl,hc1,hk1⟩
  clear ho
  have hz1:=hk1.size
  go_wp2_with fail
  go_loopg [14] c.ts.length (fun g sl wr => ∃ (l:List Dt) (cc:Cu) (Gs:List Nat),Hid (brkF E right 0 g l cc = R) ∧ CurAt wr B p cc ∧ Hid (Grow 33 7 wr w.heap.size l sl Gs) ∧ Kp B w wr ∧ Hid (cc.ts = c.ts) ∧ c.ts.length ≤ g + cc.ix ∧ l.length + 1 + c.ix ≤ cc.ix)
  case atStart => exact ⟨[],c.opn left,[],HR,hc1,Hi Grow.nil,hk1,Hi hst.ts,Nat.le_add_right _ _,by rw [hoi];simp;omega⟩
  case round =>
   obtain ⟨l,cc,Gs,hrun,hcc,hgr,hkr,hts,hfu,hll⟩:=hrel
   have hixl:=hcc.ok.lt
   rw [uh hts] at hixl
   obtain ⟨al,cl,hsl⟩:=(uh hgr).form
   subst hsl
   have hlz:¬ ((l.length:Int) < 0):=by omega
   obtain ⟨g',rfl⟩:∃ g',gk = g' + 1:=⟨gk - 1,by omega⟩
   have hip2:=Hi ((uh hip) wr cc hcc)
   go_wp2_with fail
   refine (uh hip2).mono ?_
   rintro e w2 ⟨rfl,b2⟩
   have hc2:=hcc.below b2
   have hgr2:=Hi ((uh hgr).keep b2.size (fun b hb _ => b2.block b hb))
   have hk2:=hkr.trans (Kp.of b2)
   cases hQ:cc.isP right
   ·have hrun2:=Hi (show (match (E cc).1 with | none => (none,(E cc).2) | some d => brkF E right 0 g' (l ++ [d]) (E cc).2) = R from by
     have e:=uh hrun
     rw [brkF,if_pos (.inr hQ)] at e
     exact e)
    have hgo:=hG cc hcc.ok
    have hcall:=Hi ((uh hEE) cc hcc.ok (uh hts) (by omega) w2 hc2)
    go_wp2_with fail
    refine (uh hcall).mono ?_
    rintro e w3 ⟨cs,F,rfl,hpo,hc3,hk3⟩
    obtain ⟨U,hU⟩:∃ U,U = E cc:=⟨_,rfl⟩
    rw [← hU] at hrun2 hgo hpo hc3 ⊢
    obtain ⟨r,C⟩:=U
    obtain ⟨k,tx,bl,ai,ni,ci,af,nf,cf,ln,co,rfl⟩:=hpo.shape
    clear hcall hU hip2 hrun
    have HP:=Hi hpo
    clear hpo
    have HC3:=Hi hc3
    have HK3:=Hi hk3
    have hz3:=hk3.size
    cases r with
    | none =>
     have hrun3:=Hi (show (none,C) = R from uh hrun2)
     go_wp2_with fail
     go_ret2
     rw [uh hs,← uh hrun3]
     exact ⟨_,rfl,rfl,(uh HC3).below (ba),(hk2.trans (uh HK3)).trans (Kp.of (ba))⟩
    | some d =>
     have hrun3:=Hi (show brkF E right 0 g' (l ++ [d]) C = R from uh hrun2)
     have hix3:cc.ix < C.ix:=hgo.2 rfl
     have hts3:=hgo.1.ts
     have hlt3:=hgo.1.ok.lt
     rw [hts3,uh hts] at hlt3
     have hgr3:=(uh hgr2).kp (uh HK3) hB
     obtain ⟨it,zt,q1,q2,q3,q4,q5⟩:=infoLz
     have HQ:=Hi (And.intro q1 (And.intro q2 (And.intro q3 (And.intro q4 q5))))
     clear q1 q2 q3 q4 q5
     obtain ⟨xss,hr3,hol3,hx3⟩:=hgr3.row
     have hr4:=Hi (fun o => World.ownsRow.alloc hr3 o)
     have hbyt:=Hi (show (l.length + 1) * 96 ≤ 140737488355328 ∧ l.length + 1 ≤ maxLen from ⟨by omega,by unfold maxLen;omega⟩)
     have hsz4:=Hi (fun o => show w.heap.size ≤ (w3.alloc o).heap.size from by have:=hz3;have:=b2.size;have:=hkr.size;simp;omega)
     have hone:=Hi ((uh HP).own.one)
     have HG:=Hi (And.intro hgr3 (And.intro hol3 hx3))
     have hTS:=Hi hts3
     clear hrun2 hgo hts3 hgr3 hr3 hol3 hx3
     go_wp2_with (first
      | (at_builtin;refine dt.wp_snoc (by rfl) _ _ (by rfl) Tryz.underlying28 (uh HQ).1 (uh HQ).2.1 (uh HQ).2.2.1 (uh HQ).2.2.2.1 (uh HQ).2.2.2.2 (by omega) w.heap.size l.length xss.flatten _ (by rfl) ((uh hr4) _) [.int .i64 k,.string tx,.bool bl,.slice ai ni ci,.slice af nf cf,.int .i64 ln,.int .i64 co] (by rfl) (uh hone) (w3.heap.size + 1) (by simp) (by rfl) (uh hbyt).1 (uh hbyt).2 ((uh hsz4) _) ?_;intro sl' w7 hr7 b7 hold7 hat7;have H7:=Hi (And.intro hr7 (And.intro b7 (And.intro hold7 hat7)));clear hr7 b7 hold7 hat7))
     go_roundg g'
     case rel =>
      obtain ⟨hr7,b7,hold7,hat7⟩:=uh H7
      obtain ⟨hgr3,hol3,hx3⟩:=uh HG
      have bA:Below w3.heap.size w3 (w3.alloc (.cells #[.int .i64 k,.string tx,.bool bl,.slice ai ni ci,.slice af nf cf,.int .i64 ln,.int .i64 co] 33)):=ba
      have hgr4:=hgr3.keep bA.size (fun b hb _ => bA.block b hb)
      have hown:=fun b (hb:(Value.slice al l.length cl).ownBlock = some b) => (let ⟨_,hr,_⟩:=(uh hgr2).row;(hr.lt b hb).2)
      have hF3:∀ b ∈ F,w2.heap.size ≤ b ∧ b < w3.heap.size:=(uh HP).rng
      have hsz:w.heap.size ≤ w2.heap.size:=hk2.size
      have hmore:=hgr4.more (dt.OwL.agree (fun w w' e cs F => dt.Ow.agree e cs F) (fun b hb j => dt.cell_blk (bA.block b (hgr3.rng b hb).2) j) hol3) hx3 (ow_below (uh HP).own bA (fun b hb => (hF3 b hb).2)) (uh HP).nodup (fun b hb => ⟨by have:=(hF3 b hb).1;omega,by have:=(hF3 b hb).2;have:=bA.size;omega,fun hm => by have:=((uh hgr2).rng b hm).2;have:=(hF3 b hb).1;omega,fun e => by have:=hown b e;have:=(hF3 b hb).1;omega⟩) (by rfl) hr7 (by have:=(hr7.lt);have:=b7.size;exact this) hold7 hat7
      have hBs:B < w3.heap.size:=by omega
      have hCA:=(uh HC3).below bA
      refine ⟨l ++ [d],C,Gs ++ F,hrun3,?_,Hi hmore,?_,Hi ((uh hTS).trans (uh hts)),by omega,by rw [List.length_append];simp;omega⟩
      ·exact hCA.low b7 hB hp
      ·exact ((hk2.trans (uh HK3)).trans (Kp.of bA)).low b7
     case measure => exact Nat.lt_succ_self _
   ·have hrun2:=Hi (show (some l,cc.cls right) = R from by
     have e:=uh hrun
     rw [brkF,if_neg (fun e => by rcases e with e | e;omega;rw [hQ] at e;cases e)] at e
     exact e)
    have hcl2:=Hi ((uh hcl) w2 cc hc2)
    rw [hQ] at hcl2
    clear hrun hip2
    go_wp2_with fail
    refine (uh hcl2).mono ?_
    rintro e w3 ⟨rfl,hc3,hk3⟩
    clear hcl2
    go_wp2_with fail
    go_ret2
    rw [uh hs,← uh hrun2]
    exact ⟨_,rfl,⟨Gs,(uh hgr2).kp hk3 hB⟩,hc3,hk2.trans hk3⟩
theorem infoFz:∃ i z,Tryz.prog.info? 59 = some i ∧ i.zero = some z ∧ i.size = 10 ∧ i.bytes = 128 ∧ z.cells.size = 10:=by
 have hin:(Tryz.prog.info? 59).map (fun i => (i.bytes,i.size,i.zero.map (·.cells.size))) = some (128,10,some 10):=by kernel_rfl
 cases hq:Tryz.prog.info? 59 with
 | none => simp [hq] at hin
 | some i =>
  simp [hq] at hin
  obtain ⟨h1,h2,z,hz,h3⟩:=hin
  exact ⟨i,z,rfl,hz,h2,h1,h3⟩
def BrkPF (r:Option (List Dt)) (lo:Nat) (w':World) (sl:Value):Prop:=match r with | none => sl = .slice none 0 0 | some l => ∃ G,Grow 59 10 w' lo l sl G
set_option maxRecDepth 4000 in
set_option maxHeartbeats 4000000 in
theorem brkF_ok' (E:Cu → Option Dt × Cu) (ct:Bool) (c:Cu) (left right:ByteArray) (hc0:c.Ok) (hlen:c.ts.length ≤ 1099511627777) (hG:Goes E) (hE:∀ cc:Cu,cc.Ok → cc.ts = c.ts → c.ix < cc.ix → FldAt 93 E ct cc) (B p:Nat) (w:World) (h:CurAt w B p c) :
  Calls Tryz.prog 92 #[ptr B,.string left,.string right,.int .i64 0,.bool ct,.func (.func 93) #[ptr B] #[]] w fun e w' => ∃ sl,e = .returned (.tuple #[sl,.bool (brk E left right 0 c).1.isSome]) ∧ BrkPF (brk E left right 0 c).1 w.heap.size w' sl ∧ CurAt w' B p (brk E left right 0 c).2 ∧ Kp B w w':=by
 have en:∀ args w,(callFunc 93 args).run Tryz.prog w = .ok (.enter 93 args) w:=fun _ _ => rfl
 have ho:=Hi (open_ok B p c left w h)
 have hB:=h.lt
 have hp:=h.plt
 cases hO:c.opB left
 ·have hs:=Hi (show brk E left right 0 c = (none,c.opn left) from by unfold brk;rw [hO];rfl)
  rw [hO] at ho
  clear h hE
  unfold ptr at ho ⊢
  go_enter Tryz.func92,Tryz.ntmps92
  go_wp2_with fail
  refine (uh ho).mono ?_
  rintro e w1 ⟨rfl,hc1,hk1⟩
  clear ho
  go_wp2_with fail
  go_ret2
  rw [uh hs]
  exact ⟨_,rfl,rfl,hc1,hk1⟩
 ·have hst:=opn_stp hc0 left
  have hoi:=opn_ix hO
  obtain ⟨R,hR⟩:∃ R,R = brkF E right 0 c.ts.length [] (c.opn left):=⟨_,rfl⟩
  have hs:=Hi (show brk E left right 0 c = R from by unfold brk;rw [hO,hR];rfl)
  rw [hO] at ho
  have HR:=Hi hR.symm
  clear h hR hO
  have hcl:=Hi (fun W (cc:Cu) (hc:CurAt W B p cc) => close_ok B p cc right W hc)
  have hip:=Hi (fun W (cc:Cu) (hc:CurAt W B p cc) => isPunct_ok B p cc right W hc)
  have hEE:=Hi (fun (cc:Cu) (h1:cc.Ok) (h2:cc.ts = c.ts) (h3:c.ix < cc.ix) => hE cc h1 h2 h3 B p)
  clear hE
  unfold ptr at ho hcl hip hEE ⊢
  go_enter Tryz.func92,Tryz.ntmps92
  go_wp2_with fail
  refine (uh ho).mono ?_
  rintro e w1 ⟨rfl,hc1,hk1⟩
  clear ho
  have hz1:=hk1.size
  go_wp2_with fail
  go_loopg [14] c.ts.length (fun g sl wr => ∃ (l:List Dt) (cc:Cu) (Gs:List Nat),Hid (brkF E right 0 g l cc = R) ∧ CurAt wr B p cc ∧ Hid (Grow 59 10 wr w.heap.size l sl Gs) ∧ Kp B w wr ∧ Hid (cc.ts = c.ts) ∧ c.ts.length ≤ g + cc.ix ∧ l.length + 1 + c.ix ≤ cc.ix)
  case atStart => exact ⟨[],c.opn left,[],HR,hc1,Hi Grow.nil,hk1,Hi hst.ts,Nat.le_add_right _ _,by rw [hoi];simp;omega⟩
  case round =>
   obtain ⟨l,cc,Gs,hrun,hcc,hgr,hkr,hts,hfu,hll⟩:=hrel
   have hixl:=hcc.ok.lt
   rw [uh hts] at hixl
   obtain ⟨al,cl,hsl⟩:=(uh hgr).form
   subst hsl
   have hlz:¬ ((l.length:Int) < 0):=by omega
   obtain ⟨g',rfl⟩:∃ g',gk = g' + 1:=⟨gk - 1,by omega⟩
   have hip2:=Hi ((uh hip) wr cc hcc)
   go_wp2_with fail
   refine (uh hip2).mono ?_
   rintro e w2 ⟨rfl,b2⟩
   have hc2:=hcc.below b2
   have hgr2:=Hi ((uh hgr).keep b2.size (fun b hb _ => b2.block b hb))
   have hk2:=hkr.trans (Kp.of b2)
   cases hQ:cc.isP right
   ·have hrun2:=Hi (show (match (E cc).1 with | none => (none,(E cc).2) | some d => brkF E right 0 g' (l ++ [d]) (E cc).2) = R from by
     have e:=uh hrun
     rw [brkF,if_pos (.inr hQ)] at e
     exact e)
    have hgo:=hG cc hcc.ok
    have hcall:=Hi ((uh hEE) cc hcc.ok (uh hts) (by omega) w2 hc2)
    go_wp2_with fail
    refine (uh hcall).mono ?_
    rintro e w3 ⟨cs,F,rfl,hpo,hc3,hk3⟩
    obtain ⟨U,hU⟩:∃ U,U = E cc:=⟨_,rfl⟩
    rw [← hU] at hrun2 hgo hpo hc3 ⊢
    obtain ⟨r,C⟩:=U
    obtain ⟨nm,ds,X,Y,⟨k,tx,bl,ai,ni,ci,af,nf,cf,ln,co,rfl⟩,rfl⟩:=hpo.shape
    clear hcall hU hip2 hrun
    have HP:=Hi hpo
    clear hpo
    have HC3:=Hi hc3
    have HK3:=Hi hk3
    have hz3:=hk3.size
    cases r with
    | none =>
     have hrun3:=Hi (show (none,C) = R from uh hrun2)
     go_wp2_with fail
     go_ret2
     rw [uh hs,← uh hrun3]
     exact ⟨_,rfl,rfl,(uh HC3).below (ba),(hk2.trans (uh HK3)).trans (Kp.of (ba))⟩
    | some d =>
     have hrun3:=Hi (show brkF E right 0 g' (l ++ [d]) C = R from uh hrun2)
     have hix3:cc.ix < C.ix:=hgo.2 rfl
     have hts3:=hgo.1.ts
     have hlt3:=hgo.1.ok.lt
     rw [hts3,uh hts] at hlt3
     have hgr3:=(uh hgr2).kp (uh HK3) hB
     obtain ⟨it,zt,q1,q2,q3,q4,q5⟩:=infoFz
     have HQ:=Hi (And.intro q1 (And.intro q2 (And.intro q3 (And.intro q4 q5))))
     clear q1 q2 q3 q4 q5
     obtain ⟨xss,hr3,hol3,hx3⟩:=hgr3.row
     have hr4:=Hi (fun o => World.ownsRow.alloc hr3 o)
     have hbyt:=Hi (show (l.length + 1) * 128 ≤ 140737488355328 ∧ l.length + 1 ≤ maxLen from ⟨by omega,by unfold maxLen;omega⟩)
     have hsz4:=Hi (fun o => show w.heap.size ≤ (w3.alloc o).heap.size from by have:=hz3;have:=b2.size;have:=hkr.size;simp;omega)
     have hone:=Hi ((uh HP).own.one)
     have HG:=Hi (And.intro hgr3 (And.intro hol3 hx3))
     have hTS:=Hi hts3
     clear hrun2 hgo hts3 hgr3 hr3 hol3 hx3
     go_wp2_with (first
      | (at_builtin;refine dt.wp_snoc (by rfl) _ _ (by rfl) Tryz.underlying29 (uh HQ).1 (uh HQ).2.1 (uh HQ).2.2.1 (uh HQ).2.2.2.1 (uh HQ).2.2.2.2 (by omega) w.heap.size l.length xss.flatten _ (by rfl) ((uh hr4) _) [.string nm,.int .i64 k,.string tx,.bool bl,.slice ai ni ci,.slice af nf cf,.int .i64 ln,.int .i64 co,.int .i64 X,.int .i64 Y] (by rfl) (uh hone) (w3.heap.size + 1) (by simp) (by rfl) (uh hbyt).1 (uh hbyt).2 ((uh hsz4) _) ?_;intro sl' w7 hr7 b7 hold7 hat7;have H7:=Hi (And.intro hr7 (And.intro b7 (And.intro hold7 hat7)));clear hr7 b7 hold7 hat7))
     go_roundg g'
     case rel =>
      obtain ⟨hr7,b7,hold7,hat7⟩:=uh H7
      obtain ⟨hgr3,hol3,hx3⟩:=uh HG
      have bA:Below w3.heap.size w3 (w3.alloc (.cells #[.string nm,.int .i64 k,.string tx,.bool bl,.slice ai ni ci,.slice af nf cf,.int .i64 ln,.int .i64 co,.int .i64 X,.int .i64 Y] 59)):=ba
      have hgr4:=hgr3.keep bA.size (fun b hb _ => bA.block b hb)
      have hown:=fun b (hb:(Value.slice al l.length cl).ownBlock = some b) => (let ⟨_,hr,_⟩:=(uh hgr2).row;(hr.lt b hb).2)
      have hF3:∀ b ∈ F,w2.heap.size ≤ b ∧ b < w3.heap.size:=(uh HP).rng
      have hsz:w.heap.size ≤ w2.heap.size:=hk2.size
      have hmore:=hgr4.more (dt.OwL.agree (fun w w' e cs F => dt.Ow.agree e cs F) (fun b hb j => dt.cell_blk (bA.block b (hgr3.rng b hb).2) j) hol3) hx3 (ow_below (uh HP).own bA (fun b hb => (hF3 b hb).2)) (uh HP).nodup (fun b hb => ⟨by have:=(hF3 b hb).1;omega,by have:=(hF3 b hb).2;have:=bA.size;omega,fun hm => by have:=((uh hgr2).rng b hm).2;have:=(hF3 b hb).1;omega,fun e => by have:=hown b e;have:=(hF3 b hb).1;omega⟩) (by rfl) hr7 (by have:=(hr7.lt);have:=b7.size;exact this) hold7 hat7
      have hBs:B < w3.heap.size:=by omega
      have hCA:=(uh HC3).below bA
      refine ⟨l ++ [d],C,Gs ++ F,hrun3,?_,Hi hmore,?_,Hi ((uh hTS).trans (uh hts)),by omega,by rw [List.length_append];simp;omega⟩
      ·exact hCA.low b7 hB hp
      ·exact ((hk2.trans (uh HK3)).trans (Kp.of bA)).low b7
     case measure => exact Nat.lt_succ_self _
   ·have hrun2:=Hi (show (some l,cc.cls right) = R from by
     have e:=uh hrun
     rw [brkF,if_neg (fun e => by rcases e with e | e;omega;rw [hQ] at e;cases e)] at e
     exact e)
    have hcl2:=Hi ((uh hcl) w2 cc hc2)
    rw [hQ] at hcl2
    clear hrun hip2
    go_wp2_with fail
    refine (uh hcl2).mono ?_
    rintro e w3 ⟨rfl,hc3,hk3⟩
    clear hcl2
    go_wp2_with fail
    go_ret2
    rw [uh hs,← uh hrun2]
    exact ⟨_,rfl,⟨Gs,(uh hgr2).kp hk3 hB⟩,hc3,hk2.trans hk3⟩
def LitFn (f:Nat) (L:Cu → Option Dt × Cu) (ct:Bool) (c:Cu):Prop:=∀ (B p:Nat) (w:World),CurAt w B p c → Calls Tryz.prog f #[ptr B,.bool ct] w fun e w' => ∃ cs F,e = .returned (.tuple #[.agg cs.toArray,.bool (L c).1.isSome]) ∧ LitPost ((L c).1.getD zeroD) w w' cs F ∧ CurAt w' B p (L c).2 ∧ Kp B w w'
theorem list_ow {t:TypeId} {w:World} {lo:Nat} {l:List Dt} {sl:Value} {G:List Nat} (h:Grow t 7 w lo l sl G) (ln co:Int):∃ a n c F,sl = .slice a n c ∧ Ow w (litD 8 em false (Dt.of l) .nil ln co) [.int .i64 8,.string ⟨#[]⟩,.bool false,.slice a n c,.slice none 0 0,.int .i64 ln,.int .i64 co] F ∧ F.Nodup ∧ ∀ b ∈ F,lo ≤ b ∧ b < w.heap.size:=by
 obtain ⟨a,n,c,F,rfl,h1,h2,h3,h4,h5,h6,h7⟩:=h.shut
 refine ⟨a,n,c,F,rfl,?_,h4,h5⟩
 unfold litD
 unfold Ow
 refine ⟨_,rfl,rfl,?_⟩
 unfold Ow
 refine ⟨_,rfl,rfl,?_⟩
 unfold Ow
 refine ⟨_,rfl,rfl,?_⟩
 unfold Ow
 refine ⟨a,n,c,_,F,[],rfl,h1,h2,h3,h7,?_,by simp⟩
 unfold Ow
 refine ⟨none,0,0,_,[],[],rfl,Nat.le_refl _,Nat.zero_le _,fun _ => rfl,.inl ⟨rfl,rfl,rfl,rfl⟩,pos_ow _ _ _,rfl⟩
set_option maxRecDepth 4000 in
set_option maxHeartbeats 2000000 in
theorem list_ok (L:Cu → Option Dt × Cu) (ct:Bool) (c:Cu) (hc0:c.Ok) (hlen:c.ts.length ≤ 1099511627777) (hG:Goes L) (hE:∀ cc:Cu,cc.Ok → cc.ts = c.ts → c.ix < cc.ix → LitAt L ct cc):LitFn 65 (listS L) ct c:=by
 intro B p w h
 have ht:=Hi (fun W (bb:Below w.heap.size w W) => token_ok B p c W (h.below bb))
 have hb:=Hi (fun W (bb:Below w.heap.size w W) => brkL_ok L ct c bLb bRb hc0 hlen hG hE B p W (h.below bb))
 have hlt:=h.lt
 have hplt:=h.plt
 have hne:B ≠ w.heap.size:=by omega
 have hnp:p ≠ w.heap.size:=by omega
 have bA:=Hi (fun o => show Below w.heap.size w (w.alloc o) from ba)
 have hZ:=Hi (fun o W (hk:Kp B (w.alloc o) W) => show W.heap[w.heap.size]? = some o from (hk.block w.heap.size (by simp) (by omega)).trans (heap_alloc_new w o))
 have hs0:=Hi (show (brk L bLb bRb 0 c).1 = none → listS L c = (none,(brk L bLb bRb 0 c).2) from fun e => by unfold listS;rw [e])
 have hs1:=Hi (show ∀ l,(brk L bLb bRb 0 c).1 = some l → listS L c = (some (litD 8 em false (Dt.of l) .nil c.tok.ln c.tok.co),(brk L bLb bRb 0 c).2) from fun l e => by unfold listS;rw [e])
 have hf2:=fld_pos c.tok
 obtain ⟨t,et⟩:∃ t,t = c.tok:=⟨_,rfl⟩
 rw [← et] at ht hs1 hf2
 obtain ⟨U,hU⟩:∃ U,U = brk L bLb bRb 0 c:=⟨_,rfl⟩
 rw [← hU] at hb hs0 hs1
 clear h hU et hE
 obtain ⟨r,C⟩:=U
 unfold Tk.cells at ht
 unfold ptr at ht hb ⊢
 go_enter Tryz.func65,Tryz.ntmps65
 go_wp2_with fail
 refine ((uh ht) _ ((uh bA) _)).mono ?_
 rintro e w1 ⟨rfl,b1⟩
 have hz1:w.heap.size < w1.heap.size:=by have:=b1.size;simp at this;omega
 have bw1:=((uh bA) _).trans (b1.mono ((uh bA) _).size)
 go_wp2_with fail
 refine ((uh hb) _ (bw1.alloc bw1.size _)).mono ?_
 rintro e w2 ⟨sl,rfl,hbp,hc2,hk2⟩
 have hD2:=(hk2.block w1.heap.size (by simp) (by omega)).trans (heap_alloc_new w1 _)
 have hk12:=(Kp.of b1).trans ((Kp.of (ba)).trans hk2)
 have hR2:=(uh hZ) _ w2 hk12
 have hz2:w1.heap.size < w2.heap.size:=by have:=hk2.size;simp at this;omega
 have d0:w2.cell? ⟨w1.heap.size,0,none⟩ = some (.int .i64 t.ln):=(dt.cell_cells hD2 0).trans rfl
 have d1:w2.cell? ⟨w1.heap.size,1,none⟩ = some (.int .i64 t.co):=(dt.cell_cells hD2 1).trans rfl
 have HT:=Hi (dt.there_cells hR2 (o:=0) (n:=7) (by decide))
 have HK:=Hi ((Kp.of ((uh bA) _)).trans hk12)
 have HC:=Hi hc2
 have HB:=Hi hbp
 have hloZ:=Hi (show w.heap.size < (w1.alloc (.cells #[.int .i64 t.ln,.int .i64 t.co] 31)).heap.size from by simp;omega)
 clear ht hb hk2 hk12 hc2 hZ bA hR2 hD2 hbp bw1
 cases r with
 | none =>
  have hs2:=Hi ((uh hs0) rfl)
  obtain rfl:sl = .slice none 0 0:=uh HB
  clear hs0 hs1
  go_wp2_with (first
   | refine wpList_store_mid (by rfl) 33 _ _ (by rfl) w.heap.size 0 #[.int .i64 0,.string ⟨#[]⟩,.bool false,.slice none 0 0,.slice none 0 0,.int .i64 0,.int .i64 0] (by rfl) (by rfl) (uh HT) infoLt (dt.one_cells (cs:=[.int .i64 0,.string ⟨#[]⟩,.bool false,.slice none 0 0,.slice none 0 0,.int .i64 0,.int .i64 0]) (by rfl)) ?_)
  refine bodyPost_ret (rgn.result_row_tmp rfl _ _ w.heap.size 0 [.int .i64 0,.string ⟨#[]⟩,.bool false,.slice none 0 0,.slice none 0 0,.int .i64 0,.int .i64 0] _ rfl (World.rangeAt_setCells_same _ _ _ _ (uh HT)) Tryz.underlying33 rfl infoLt) rfl ?_
  rw [uh hs2]
  exact ⟨_,[],rfl,⟨leaf_shape 0 em false 0 0,leaf_ow _ 0 em false 0 0,List.nodup_nil,by simp⟩,(uh HC).out hne hnp _ _,(uh HK).out (Nat.le_refl _) _ _⟩
 | some l =>
  have hs2:=Hi ((uh hs1) l rfl)
  obtain ⟨Gs,hgr⟩:=uh HB
  obtain ⟨a,n,c',F,rfl,how,hnd,hrg⟩:=list_ow hgr t.ln t.co
  have HO:=Hi (And.intro how (And.intro hnd hrg))
  clear hs0 hs1 hgr how hnd hrg HB
  go_wp2_with (first
   | refine wpList_store_mid (by rfl) 33 _ _ (by rfl) w.heap.size 0 #[.int .i64 8,.string ⟨#[]⟩,.bool false,.slice a n c',.slice none 0 0,.int .i64 t.ln,.int .i64 t.co] (by rfl) (by rfl) (uh HT) infoLt (dt.one_cells (cs:=[.int .i64 8,.string ⟨#[]⟩,.bool false,.slice a n c',.slice none 0 0,.int .i64 t.ln,.int .i64 t.co]) (by rfl)) ?_)
  refine bodyPost_ret (rgn.result_row_tmp rfl _ _ w.heap.size 0 [.int .i64 8,.string ⟨#[]⟩,.bool false,.slice a n c',.slice none 0 0,.int .i64 t.ln,.int .i64 t.co] _ rfl (World.rangeAt_setCells_same _ _ _ _ (uh HT)) Tryz.underlying33 rfl infoLt) rfl ?_
  rw [uh hs2]
  obtain ⟨how,hnd,hrg⟩:=uh HO
  exact ⟨_,F,rfl,⟨⟨_,_,_,_,_,_,_,_,_,_,_,rfl⟩,ow_out how (fun hm => by have:=(hrg _ hm).1;have:=uh hloZ;omega) _ _,hnd,fun b hb => ⟨by have:=(hrg b hb).1;have:=uh hloZ;omega,by rw [dt.size_setCells];exact (hrg b hb).2⟩⟩,(uh HC).out hne hnp _ _,(uh HK).out (Nat.le_refl _) _ _⟩
theorem obj_ow {t:TypeId} {w:World} {lo:Nat} {l:List Dt} {sl:Value} {G:List Nat} (h:Grow t 10 w lo l sl G) (ln co:Int):∃ a n c F,sl = .slice a n c ∧ Ow w (litD 9 em false .nil (Dt.of l) ln co) [.int .i64 9,.string ⟨#[]⟩,.bool false,.slice none 0 0,.slice a n c,.int .i64 ln,.int .i64 co] F ∧ F.Nodup ∧ ∀ b ∈ F,lo ≤ b ∧ b < w.heap.size:=by
 obtain ⟨a,n,c,F,rfl,h1,h2,h3,h4,h5,h6,h7⟩:=h.shut
 refine ⟨a,n,c,F,rfl,?_,h4,h5⟩
 unfold litD
 unfold Ow
 refine ⟨_,rfl,rfl,?_⟩
 unfold Ow
 refine ⟨_,rfl,rfl,?_⟩
 unfold Ow
 refine ⟨_,rfl,rfl,?_⟩
 unfold Ow
 refine ⟨none,0,0,_,[],F,rfl,Nat.le_refl _,Nat.zero_le _,fun _ => rfl,.inl ⟨rfl,rfl,rfl,rfl⟩,?_,rfl⟩
 unfold Ow
 exact ⟨a,n,c,_,F,[],rfl,h1,h2,h3,h7,pos_ow _ _ _,by simp⟩
set_option maxRecDepth 4000 in
set_option maxHeartbeats 2000000 in
theorem obj_ok (L:Cu → Option Dt × Cu) (ct:Bool) (c:Cu) (hc0:c.Ok) (hlen:c.ts.length ≤ 1099511627777) (hG:Goes L) (hE:∀ cc:Cu,cc.Ok → cc.ts = c.ts → c.ix < cc.ix → FldAt 93 (argS L) ct cc):LitFn 66 (objS L) ct c:=by
 intro B p w h
 have ht:=Hi (fun W (bb:Below w.heap.size w W) => token_ok B p c W (h.below bb))
 have hb:=Hi (fun W (bb:Below w.heap.size w W) => brkF_ok' (argS L) ct c bLc bRc hc0 hlen (argS_goes hG) hE B p W (h.below bb))
 have hlt:=h.lt
 have hplt:=h.plt
 have hne:B ≠ w.heap.size:=by omega
 have hnp:p ≠ w.heap.size:=by omega
 have bA:=Hi (fun o => show Below w.heap.size w (w.alloc o) from ba)
 have hZ:=Hi (fun o W (hk:Kp B (w.alloc o) W) => show W.heap[w.heap.size]? = some o from (hk.block w.heap.size (by simp) (by omega)).trans (heap_alloc_new w o))
 have hs0:=Hi (show (brk (argS L) bLc bRc 0 c).1 = none → objS L c = (none,(brk (argS L) bLc bRc 0 c).2) from fun e => by unfold objS;rw [e])
 have hs1:=Hi (show ∀ l,(brk (argS L) bLc bRc 0 c).1 = some l → objS L c = (some (litD 9 em false .nil (Dt.of l) c.tok.ln c.tok.co),(brk (argS L) bLc bRc 0 c).2) from fun l e => by unfold objS;rw [e])
 have hf2:=fld_pos c.tok
 obtain ⟨t,et⟩:∃ t,t = c.tok:=⟨_,rfl⟩
 rw [← et] at ht hs1 hf2
 obtain ⟨U,hU⟩:∃ U,U = brk (argS L) bLc bRc 0 c:=⟨_,rfl⟩
 rw [← hU] at hb hs0 hs1
 clear h hU et hE
 obtain ⟨r,C⟩:=U
 unfold Tk.cells at ht
 unfold ptr at ht hb ⊢
 go_enter Tryz.func66,Tryz.ntmps66
 go_wp2_with fail
 refine ((uh ht) _ ((uh bA) _)).mono ?_
 rintro e w1 ⟨rfl,b1⟩
 have hz1:w.heap.size < w1.heap.size:=by have:=b1.size;simp at this;omega
 have bw1:=((uh bA) _).trans (b1.mono ((uh bA) _).size)
 go_wp2_with fail
 refine ((uh hb) _ (bw1.alloc bw1.size _)).mono ?_
 rintro e w2 ⟨sl,rfl,hbp,hc2,hk2⟩
 have hD2:=(hk2.block w1.heap.size (by simp) (by omega)).trans (heap_alloc_new w1 _)
 have hk12:=(Kp.of b1).trans ((Kp.of (ba)).trans hk2)
 have hR2:=(uh hZ) _ w2 hk12
 have hz2:w1.heap.size < w2.heap.size:=by have:=hk2.size;simp at this;omega
 have d0:w2.cell? ⟨w1.heap.size,0,none⟩ = some (.int .i64 t.ln):=(dt.cell_cells hD2 0).trans rfl
 have d1:w2.cell? ⟨w1.heap.size,1,none⟩ = some (.int .i64 t.co):=(dt.cell_cells hD2 1).trans rfl
 have HT:=Hi (dt.there_cells hR2 (o:=0) (n:=7) (by decide))
 have HK:=Hi ((Kp.of ((uh bA) _)).trans hk12)
 have HC:=Hi hc2
 have HB:=Hi hbp
 have hloZ:=Hi (show w.heap.size < (w1.alloc (.cells #[.int .i64 t.ln,.int .i64 t.co] 31)).heap.size from by simp;omega)
 clear ht hb hk2 hk12 hc2 hZ bA hR2 hD2 hbp bw1
 cases r with
 | none =>
  have hs2:=Hi ((uh hs0) rfl)
  obtain rfl:sl = .slice none 0 0:=uh HB
  clear hs0 hs1
  go_wp2_with (first
   | refine wpList_store_mid (by rfl) 33 _ _ (by rfl) w.heap.size 0 #[.int .i64 0,.string ⟨#[]⟩,.bool false,.slice none 0 0,.slice none 0 0,.int .i64 0,.int .i64 0] (by rfl) (by rfl) (uh HT) infoLt (dt.one_cells (cs:=[.int .i64 0,.string ⟨#[]⟩,.bool false,.slice none 0 0,.slice none 0 0,.int .i64 0,.int .i64 0]) (by rfl)) ?_)
  refine bodyPost_ret (rgn.result_row_tmp rfl _ _ w.heap.size 0 [.int .i64 0,.string ⟨#[]⟩,.bool false,.slice none 0 0,.slice none 0 0,.int .i64 0,.int .i64 0] _ rfl (World.rangeAt_setCells_same _ _ _ _ (uh HT)) Tryz.underlying33 rfl infoLt) rfl ?_
  rw [uh hs2]
  exact ⟨_,[],rfl,⟨leaf_shape 0 em false 0 0,leaf_ow _ 0 em false 0 0,List.nodup_nil,by simp⟩,(uh HC).out hne hnp _ _,(uh HK).out (Nat.le_refl _) _ _⟩
 | some l =>
  have hs2:=Hi ((uh hs1) l rfl)
  obtain ⟨Gs,hgr⟩:=uh HB
  obtain ⟨a,n,c',F,rfl,how,hnd,hrg⟩:=obj_ow hgr t.ln t.co
  have HO:=Hi (And.intro how (And.intro hnd hrg))
  clear hs0 hs1 hgr how hnd hrg HB
  go_wp2_with (first
   | refine wpList_store_mid (by rfl) 33 _ _ (by rfl) w.heap.size 0 #[.int .i64 9,.string ⟨#[]⟩,.bool false,.slice none 0 0,.slice a n c',.int .i64 t.ln,.int .i64 t.co] (by rfl) (by rfl) (uh HT) infoLt (dt.one_cells (cs:=[.int .i64 9,.string ⟨#[]⟩,.bool false,.slice none 0 0,.slice a n c',.int .i64 t.ln,.int .i64 t.co]) (by rfl)) ?_)
  refine bodyPost_ret (rgn.result_row_tmp rfl _ _ w.heap.size 0 [.int .i64 9,.string ⟨#[]⟩,.bool false,.slice none 0 0,.slice a n c',.int .i64 t.ln,.int .i64 t.co] _ rfl (World.rangeAt_setCells_same _ _ _ _ (uh HT)) Tryz.underlying33 rfl infoLt) rfl ?_
  rw [uh hs2]
  obtain ⟨how,hnd,hrg⟩:=uh HO
  exact ⟨_,F,rfl,⟨⟨_,_,_,_,_,_,_,_,_,_,_,rfl⟩,ow_out how (fun hm => by have:=(hrg _ hm).1;have:=uh hloZ;omega) _ _,hnd,fun b hb => ⟨by have:=(hrg b hb).1;have:=uh hloZ;omega,by rw [dt.size_setCells];exact (hrg b hb).2⟩⟩,(uh HC).out hne hnp _ _,(uh HK).out (Nat.le_refl _) _ _⟩
set_option maxRecDepth 4000 in
set_option maxHeartbeats 1000000 in
theorem field_ok (E:Cu → Option Dt × Cu) (ct:Bool) (c:Cu) (hA:FldAt 89 E ct c):FldAt 93 E ct c:=by
 intro B p w h
 have ha:=Hi (fun W (bb:Below w.heap.size w W) => hA B p W (h.below bb))
 have hlt:=h.lt
 have hplt:=h.plt
 have hne:B ≠ w.heap.size:=by omega
 have hnp:p ≠ w.heap.size:=by omega
 have bA:=Hi (fun o => show Below w.heap.size w (w.alloc o) from ba)
 have hZ:=Hi (fun o W (hk:Kp B (w.alloc o) W) => show W.heap[w.heap.size]? = some o from (hk.block w.heap.size (by simp) (by omega)).trans (heap_alloc_new w o))
 obtain ⟨U,hU⟩:∃ U,U = E c:=⟨_,rfl⟩
 rw [← hU] at ha ⊢
 clear h hU hA
 obtain ⟨r,C⟩:=U
 unfold ptr at ha ⊢
 go_enter Tryz.func93,Tryz.ntmps93
 go_wp2_with fail
 refine ((uh ha) _ ((uh bA) _)).mono ?_
 rintro e w2 ⟨cs,F,rfl,hpo,hc2,hk2⟩
 obtain ⟨nm,ds,X,Y,⟨k,tx,bl,ai,ni,ci,af,nf,cf,ln,co,rfl⟩,rfl⟩:=hpo.shape
 have hR2:=(uh hZ) _ w2 hk2
 have hz2:w.heap.size < w2.heap.size:=by have:=hk2.size;simp at this;omega
 have HT:=Hi (fun o => dt.there_cells ((Below.heap_alloc w2 o w.heap.size hz2).trans hR2) (o:=0) (n:=10) (by decide))
 have HK:=Hi ((Kp.of ((uh bA) _)).trans hk2)
 have HC:=Hi hc2
 have HP:=Hi hpo
 have hrF:∀ b ∈ F,w.heap.size < b ∧ b < w2.heap.size:=fun b hb => ⟨by have:=(hpo.rng b hb).1;simp at this;omega,(hpo.rng b hb).2⟩
 clear ha hk2 hc2 hZ bA hR2 hpo
 go_wp2_with (first
  | refine wpList_store_mid (by rfl) 59 _ _ (by rfl) w.heap.size 0 #[.string nm,.int .i64 k,.string tx,.bool bl,.slice ai ni ci,.slice af nf cf,.int .i64 ln,.int .i64 co,.int .i64 X,.int .i64 Y] (by rfl) (by rfl) ((uh HT) _) infoLf (dt.one_cells (cs:=[.string nm,.int .i64 k,.string tx,.bool bl,.slice ai ni ci,.slice af nf cf,.int .i64 ln,.int .i64 co,.int .i64 X,.int .i64 Y]) (by rfl)) ?_)
 refine bodyPost_ret (rgn.result_row_tmp rfl _ _ w.heap.size 0 [.string nm,.int .i64 k,.string tx,.bool bl,.slice ai ni ci,.slice af nf cf,.int .i64 ln,.int .i64 co,.int .i64 X,.int .i64 Y] _ rfl (World.rangeAt_setCells_same _ _ _ _ ((uh HT) _)) Tryz.underlying59 rfl infoLf) rfl ?_
 have hown:=ow_out (ow_below (uh HP).own ((Below.refl _ _).alloc (Nat.le_refl _) (.cells #[.string nm,.int .i64 k,.string tx,.bool bl,.slice ai ni ci,.slice af nf cf,.int .i64 ln,.int .i64 co,.int .i64 X,.int .i64 Y] 123)) (fun b hb => (hrF b hb).2)) (b:=w.heap.size) (fun hb => by have:=(hrF _ hb).1;omega) 0 [.string nm,.int .i64 k,.string tx,.bool bl,.slice ai ni ci,.slice af nf cf,.int .i64 ln,.int .i64 co,.int .i64 X,.int .i64 Y]
 exact ⟨_,F,rfl,⟨⟨nm,_,X,Y,⟨k,tx,bl,ai,ni,ci,af,nf,cf,ln,co,rfl⟩,rfl⟩,hown,(uh HP).nodup,fun b hb => ⟨by have:=(hrF b hb).1;omega,by rw [dt.size_setCells];have:=(hrF b hb).2;simp;omega⟩⟩,((uh HC).below (ba)).out hne hnp _ _,((uh HK).trans (Kp.of (ba))).out (Nat.le_refl _) _ _⟩
theorem word_form (t:Tk):∃ (k:Int) (s:ByteArray),wordC t t.tx = leafC k s false t.ln t.co ∧ wordD t = litD k s false .nil .nil t.ln t.co:=by
 unfold wordC wordD
 split
 ·exact ⟨5,t.tx,rfl,rfl⟩
 ·split
  ·exact ⟨6,em,rfl,rfl⟩
  ·exact ⟨7,t.tx,rfl,rfl⟩
theorem var_post (c:Cu):∃ d,(varS c).1.getD zeroD = d ∧ (varS c).1.isSome = c.take.isN ∧ (varS c).2 = c.take.name ∧ ∃ k s ln co,varC c = leafC k s false ln co ∧ d = litD k s false .nil .nil ln co:=by
 unfold varS varC
 split
 ·exact ⟨_,rfl,by simp [*],rfl,_,_,_,_,rfl,rfl⟩
 ·exact ⟨_,rfl,by simp [*],rfl,0,em,0,0,rfl,rfl⟩
set_option maxRecDepth 4000 in
set_option maxHeartbeats 8000000 in
theorem lit_ok (L:Cu → Option Dt × Cu) (ct:Bool) (c:Cu) (hc0:c.Ok) (hls':LitFn 65 (listS L) ct c) (hob':LitFn 66 (objS L) ct c):LitAt (litS L ct) ct c:=by
 intro B p w h
 have hd:=Hi (fun W (bb:Below w.heap.size w W) => dead_ok B p c W (h.below bb))
 have ht:=Hi (fun W (bb:Below w.heap.size w W) => token_ok B p c W (h.below bb))
 have hip:=Hi (fun q W (bb:Below w.heap.size w W) => isPunct_ok B p c q W (h.below bb))
 have hrf:=Hi (fun W (bb:Below w.heap.size w W) => refuse0_ok B p c W (h.below bb))
 have hls:=Hi (fun W (bb:Below w.heap.size w W) => hls' B p W (h.below bb))
 have hob:=Hi (fun W (bb:Below w.heap.size w W) => hob' B p W (h.below bb))
 have hlt:=h.lt
 have hplt:=h.plt
 have hne:B ≠ w.heap.size:=by omega
 have hnp:p ≠ w.heap.size:=by omega
 have bA:=Hi (fun o => show Below w.heap.size w (w.alloc o) from ba)
 have hZ:=Hi (fun o W (hk:Kp B (w.alloc o) W) => show W.heap[w.heap.size]? = some o from (hk.block w.heap.size (by simp) (by omega)).trans (heap_alloc_new w o))
 by_cases hkd:c.kd = 0
 ·have ekd:(c.kd != 0) = false:=by simpa using hkd
  have hm:∀ k:Int,c.tok.k = k → k ≠ 0 → k ≠ 1 → c.ix + 1 < c.ts.length:=fun k e h0 h1 => more_of hc0 (by rw [e];exact h0) (by rw [e];exact h1)
  have hSS:=Hi (show litS L ct c = (if c.tok.k = 4 then (some (litD 2 c.tok.tx false .nil .nil c.tok.ln c.tok.co),c.take)
   else if c.tok.k = 5 then (some (litD 3 c.tok.tx false .nil .nil c.tok.ln c.tok.co),c.take)
   else if c.tok.k = 6 ∨ c.tok.k = 7 then (some (litD 4 c.tok.va (decide (c.tok.k = 7)) .nil .nil c.tok.ln c.tok.co),c.take)
   else if c.tok.k = 3 then (some (wordD c.tok),c.take)
   else if c.isP bDol ∧ ct = false then varS c
   else if c.isP bLb then listS L c
   else if c.isP bLc then objS L c
   else (none,c.stop 70)) from by unfold litS;rw [if_neg (fun e => e hkd)])
  have hl:=Hi (fun k s W (bb:Below w.heap.size w W) (hm:c.ix + 1 < c.ts.length) => leaf_ok B p c k s W (h.below bb) hm)
  have hwd:=Hi (fun s W (bb:Below w.heap.size w W) (hm:c.ix + 1 < c.ts.length) => word_ok B p c s W (h.below bb) hm)
  have hvr:=Hi (fun W (bb:Below w.heap.size w W) (hm:c.ix + 1 < c.ts.length) => var_ok B p c W (h.below bb) hm)
  have hmP:=Hi (fun q (e:c.isP q = true) => isP_more hc0 e)
  obtain ⟨t,et⟩:∃ t,t = c.tok:=⟨_,rfl⟩
  rw [← et] at ht hl hwd hSS hm
  rw [ekd] at hd
  have Het:=Hi et
  clear h et hls' hob' hkd ekd
  unfold Tk.cells at ht
  unfold leafC at hl
  unfold ptr at hd ht hip hrf hls hob hl hwd hvr ⊢
  by_cases h4:t.k = 4
  ·have e4:(t.k == 4) = true:=by simpa using h4
   have hmm:=hm 4 h4 (by decide) (by decide)
   have hl:=Hi (fun k s W bb => (uh hl) k s W bb hmm)
   have hs2:=Hi (show litS L ct c = (some (litD 2 t.tx false .nil .nil t.ln t.co),c.take) from by rw [uh hSS,if_pos h4])
   clear h4 hm hSS hmm
   go_enter Tryz.func17,Tryz.ntmps17
   go_wp2_with fail
   refine ((uh hd) _ ((uh bA) _)).mono ?_
   rintro e w1 ⟨rfl,rfl⟩
   go_wp2_with fail
   refine ((uh ht) _ ((uh bA) _)).mono ?_
   rintro e w1 ⟨rfl,b1⟩
   have bw1:=((uh bA) _).trans (b1.mono ((uh bA) _).size)
   have bw2:=fun o => bw1.alloc bw1.size o
   go_wp2_with fail
   refine ((uh hl) 2 t.tx _ (bw2 _)).mono ?_
   rintro e w2 ⟨rfl,hc2,hk2⟩
   have hk02:=(Kp.of b1).trans ((Kp.of (ba)).trans hk2)
   have hR2:=(uh hZ) _ w2 hk02
   have HT:=Hi (dt.there_cells hR2 (o:=0) (n:=7) (by decide))
   have HK:=Hi ((Kp.of ((uh bA) _)).trans hk02)
   have HC:=Hi hc2
   clear hl hwd hvr hls hob hip hrf ht hd hk2 hk02 hc2 hZ bA hR2 bw1 bw2
   go_wp2_with (first
    | refine wpList_store_mid (by rfl) 33 _ _ (by rfl) w.heap.size 0 #[.int .i64 2,.string t.tx,.bool false,.slice none 0 0,.slice none 0 0,.int .i64 t.ln,.int .i64 t.co] (by rfl) (by rfl) (uh HT) infoLt (dt.one_cells (cs:=[.int .i64 2,.string t.tx,.bool false,.slice none 0 0,.slice none 0 0,.int .i64 t.ln,.int .i64 t.co]) (by rfl)) ?_)
   refine bodyPost_ret (rgn.result_row_tmp rfl _ _ w.heap.size 0 [.int .i64 2,.string t.tx,.bool false,.slice none 0 0,.slice none 0 0,.int .i64 t.ln,.int .i64 t.co] _ rfl (World.rangeAt_setCells_same _ _ _ _ (uh HT)) Tryz.underlying33 rfl infoLt) rfl ?_
   rw [uh hs2]
   exact ⟨_,[],rfl,⟨leaf_shape 2 t.tx false t.ln t.co,leaf_ow _ 2 t.tx false t.ln t.co,List.nodup_nil,by simp⟩,(uh HC).out hne hnp _ _,(uh HK).out (Nat.le_refl _) _ _⟩
  have e4:(t.k == 4) = false:=by simpa using h4
  by_cases h5:t.k = 5
  ·have e5:(t.k == 5) = true:=by simpa using h5
   have hmm:=hm 5 h5 (by decide) (by decide)
   have hl:=Hi (fun k s W bb => (uh hl) k s W bb hmm)
   have hs2:=Hi (show litS L ct c = (some (litD 3 t.tx false .nil .nil t.ln t.co),c.take) from by rw [uh hSS,if_neg h4,if_pos h5])
   clear h4 h5 hm hSS hmm
   go_enter Tryz.func17,Tryz.ntmps17
   go_wp2_with fail
   refine ((uh hd) _ ((uh bA) _)).mono ?_
   rintro e w1 ⟨rfl,rfl⟩
   go_wp2_with fail
   refine ((uh ht) _ ((uh bA) _)).mono ?_
   rintro e w1 ⟨rfl,b1⟩
   have bw1:=((uh bA) _).trans (b1.mono ((uh bA) _).size)
   have bw2:=fun o => bw1.alloc bw1.size o
   go_wp2_with fail
   refine ((uh hl) 3 t.tx _ (bw2 _)).mono ?_
   rintro e w2 ⟨rfl,hc2,hk2⟩
   have hk02:=(Kp.of b1).trans ((Kp.of (ba)).trans hk2)
   have hR2:=(uh hZ) _ w2 hk02
   have HT:=Hi (dt.there_cells hR2 (o:=0) (n:=7) (by decide))
   have HK:=Hi ((Kp.of ((uh bA) _)).trans hk02)
   have HC:=Hi hc2
   clear hl hwd hvr hls hob hip hrf ht hd hk2 hk02 hc2 hZ bA hR2 bw1 bw2
   go_wp2_with (first
    | refine wpList_store_mid (by rfl) 33 _ _ (by rfl) w.heap.size 0 #[.int .i64 3,.string t.tx,.bool false,.slice none 0 0,.slice none 0 0,.int .i64 t.ln,.int .i64 t.co] (by rfl) (by rfl) (uh HT) infoLt (dt.one_cells (cs:=[.int .i64 3,.string t.tx,.bool false,.slice none 0 0,.slice none 0 0,.int .i64 t.ln,.int .i64 t.co]) (by rfl)) ?_)
   refine bodyPost_ret (rgn.result_row_tmp rfl _ _ w.heap.size 0 [.int .i64 3,.string t.tx,.bool false,.slice none 0 0,.slice none 0 0,.int .i64 t.ln,.int .i64 t.co] _ rfl (World.rangeAt_setCells_same _ _ _ _ (uh HT)) Tryz.underlying33 rfl infoLt) rfl ?_
   rw [uh hs2]
   exact ⟨_,[],rfl,⟨leaf_shape 3 t.tx false t.ln t.co,leaf_ow _ 3 t.tx false t.ln t.co,List.nodup_nil,by simp⟩,(uh HC).out hne hnp _ _,(uh HK).out (Nat.le_refl _) _ _⟩
  have e5:(t.k == 5) = false:=by simpa using h5
  by_cases h6:t.k = 6
  ·have e6:(t.k == 6) = true:=by simpa using h6
   have e7:(t.k == 7) = false:=by rw [h6];rfl
   have hmm:=hm 6 h6 (by decide) (by decide)
   have hl:=Hi (fun k s W bb => (uh hl) k s W bb hmm)
   have hs2:=Hi (show litS L ct c = (some (litD 4 t.va false .nil .nil t.ln t.co),c.take) from by rw [uh hSS,if_neg h4,if_neg h5,if_pos (.inl h6),show decide (t.k = 7) = false from by rw [h6];rfl])
   clear h4 h5 h6 hm hSS hmm
   go_enter Tryz.func17,Tryz.ntmps17
   go_wp2_with fail
   refine ((uh hd) _ ((uh bA) _)).mono ?_
   rintro e w1 ⟨rfl,rfl⟩
   go_wp2_with fail
   refine ((uh ht) _ ((uh bA) _)).mono ?_
   rintro e w1 ⟨rfl,b1⟩
   have bw1:=((uh bA) _).trans (b1.mono ((uh bA) _).size)
   have bw2:=fun o => bw1.alloc bw1.size o
   go_wp2_with fail
   refine ((uh hl) 4 t.va _ (bw2 _)).mono ?_
   rintro e w2 ⟨rfl,hc2,hk2⟩
   have hT2:=(hk2.block w1.heap.size (by simp) (by have:=bw1.size;omega)).trans (heap_alloc_new w1 _)
   have hk02:=(Kp.of b1).trans ((Kp.of (ba)).trans hk2)
   have hR2:=(uh hZ) _ w2 hk02
   have hz2:w.heap.size < w2.heap.size:=by have:=hk02.size;simp at this;omega
   have hz3:w1.heap.size < w2.heap.size:=by have:=hk2.size;simp at this;omega
   have k0:∀ o,(w2.alloc o).cell? ⟨w1.heap.size,0,none⟩ = some (.int .i64 t.k):=fun o => (dt.cell_cells ((Below.heap_alloc w2 o w1.heap.size hz3).trans hT2) 0).trans rfl
   have HT:=Hi (fun o => dt.there_cells ((Below.heap_alloc w2 o w.heap.size hz2).trans hR2) (o:=0) (n:=7) (by decide))
   have HK:=Hi ((Kp.of ((uh bA) _)).trans hk02)
   have HC:=Hi hc2
   clear hl hwd hvr hls hob hip hrf ht hd hk2 hk02 hc2 hZ bA hR2 bw1 bw2 hT2
   go_wp2_with (first
    | refine wpList_store_mid (by rfl) 33 _ _ (by rfl) w.heap.size 0 #[.int .i64 4,.string t.va,.bool false,.slice none 0 0,.slice none 0 0,.int .i64 t.ln,.int .i64 t.co] (by rfl) (by rfl) ((uh HT) _) infoLt (dt.one_cells (cs:=[.int .i64 4,.string t.va,.bool false,.slice none 0 0,.slice none 0 0,.int .i64 t.ln,.int .i64 t.co]) (by rfl)) ?_)
   refine bodyPost_ret (rgn.result_row_tmp rfl _ _ w.heap.size 0 [.int .i64 4,.string t.va,.bool false,.slice none 0 0,.slice none 0 0,.int .i64 t.ln,.int .i64 t.co] _ rfl (World.rangeAt_setCells_same _ _ _ _ ((uh HT) _)) Tryz.underlying33 rfl infoLt) rfl ?_
   rw [uh hs2]
   exact ⟨_,[],rfl,⟨leaf_shape 4 t.va false t.ln t.co,leaf_ow _ 4 t.va false t.ln t.co,List.nodup_nil,by simp⟩,((uh HC).below (ba)).out hne hnp _ _,((uh HK).trans (Kp.of (ba))).out (Nat.le_refl _) _ _⟩
  have e6:(t.k == 6) = false:=by simpa using h6
  by_cases h7:t.k = 7
  ·have e7:(t.k == 7) = true:=by simpa using h7
   have hmm:=hm 7 h7 (by decide) (by decide)
   have hl:=Hi (fun k s W bb => (uh hl) k s W bb hmm)
   have hs2:=Hi (show litS L ct c = (some (litD 4 t.va true .nil .nil t.ln t.co),c.take) from by rw [uh hSS,if_neg h4,if_neg h5,if_pos (.inr h7),show decide (t.k = 7) = true from by rw [h7];rfl])
   clear h4 h5 h6 h7 hm hSS hmm
   go_enter Tryz.func17,Tryz.ntmps17
   go_wp2_with fail
   refine ((uh hd) _ ((uh bA) _)).mono ?_
   rintro e w1 ⟨rfl,rfl⟩
   go_wp2_with fail
   refine ((uh ht) _ ((uh bA) _)).mono ?_
   rintro e w1 ⟨rfl,b1⟩
   have bw1:=((uh bA) _).trans (b1.mono ((uh bA) _).size)
   have bw2:=fun o => bw1.alloc bw1.size o
   go_wp2_with fail
   refine ((uh hl) 4 t.va _ (bw2 _)).mono ?_
   rintro e w2 ⟨rfl,hc2,hk2⟩
   have hT2:=(hk2.block w1.heap.size (by simp) (by have:=bw1.size;omega)).trans (heap_alloc_new w1 _)
   have hk02:=(Kp.of b1).trans ((Kp.of (ba)).trans hk2)
   have hR2:=(uh hZ) _ w2 hk02
   have hz2:w.heap.size < w2.heap.size:=by have:=hk02.size;simp at this;omega
   have hz3:w1.heap.size < w2.heap.size:=by have:=hk2.size;simp at this;omega
   have k0:∀ o,(w2.alloc o).cell? ⟨w1.heap.size,0,none⟩ = some (.int .i64 t.k):=fun o => (dt.cell_cells ((Below.heap_alloc w2 o w1.heap.size hz3).trans hT2) 0).trans rfl
   have HT:=Hi (fun o => dt.there_cells ((Below.heap_alloc w2 o w.heap.size hz2).trans hR2) (o:=0) (n:=7) (by decide))
   have HK:=Hi ((Kp.of ((uh bA) _)).trans hk02)
   have HC:=Hi hc2
   clear hl hwd hvr hls hob hip hrf ht hd hk2 hk02 hc2 hZ bA hR2 bw1 bw2 hT2
   go_wp2_with (first
    | refine wpList_store_mid (by rfl) 33 _ _ (by rfl) w.heap.size 0 #[.int .i64 4,.string t.va,.bool true,.slice none 0 0,.slice none 0 0,.int .i64 t.ln,.int .i64 t.co] (by rfl) (by rfl) ((uh HT) _) infoLt (dt.one_cells (cs:=[.int .i64 4,.string t.va,.bool true,.slice none 0 0,.slice none 0 0,.int .i64 t.ln,.int .i64 t.co]) (by rfl)) ?_)
   refine bodyPost_ret (rgn.result_row_tmp rfl _ _ w.heap.size 0 [.int .i64 4,.string t.va,.bool true,.slice none 0 0,.slice none 0 0,.int .i64 t.ln,.int .i64 t.co] _ rfl (World.rangeAt_setCells_same _ _ _ _ ((uh HT) _)) Tryz.underlying33 rfl infoLt) rfl ?_
   rw [uh hs2]
   exact ⟨_,[],rfl,⟨leaf_shape 4 t.va true t.ln t.co,leaf_ow _ 4 t.va true t.ln t.co,List.nodup_nil,by simp⟩,((uh HC).below (ba)).out hne hnp _ _,((uh HK).trans (Kp.of (ba))).out (Nat.le_refl _) _ _⟩
  have e7:(t.k == 7) = false:=by simpa using h7
  by_cases h3:t.k = 3
  ·have e3:(t.k == 3) = true:=by simpa using h3
   have hmm:=hm 3 h3 (by decide) (by decide)
   have hwd:=Hi (fun s W bb => (uh hwd) s W bb hmm)
   have hs2:=Hi (show litS L ct c = (some (wordD t),c.take) from by rw [uh hSS,if_neg h4,if_neg h5,if_neg (fun e => e.elim h6 h7),if_pos h3])
   clear h4 h5 h6 h7 h3 hm hSS hmm
   go_enter Tryz.func17,Tryz.ntmps17
   go_wp2_with fail
   refine ((uh hd) _ ((uh bA) _)).mono ?_
   rintro e w1 ⟨rfl,rfl⟩
   go_wp2_with fail
   refine ((uh ht) _ ((uh bA) _)).mono ?_
   rintro e w1 ⟨rfl,b1⟩
   have bw1:=((uh bA) _).trans (b1.mono ((uh bA) _).size)
   have bw2:=fun o => bw1.alloc bw1.size o
   go_wp2_with fail
   refine ((uh hwd) t.tx _ (bw2 _)).mono ?_
   rintro e w2 ⟨rfl,hc2,hk2⟩
   have hk02:=(Kp.of b1).trans ((Kp.of (ba)).trans hk2)
   have hR2:=(uh hZ) _ w2 hk02
   have HT:=Hi (dt.there_cells hR2 (o:=0) (n:=7) (by decide))
   have HK:=Hi ((Kp.of ((uh bA) _)).trans hk02)
   have HC:=Hi hc2
   obtain ⟨kk,tt,hwc,hwD⟩:=word_form t
   rw [hwc]
   rw [hwD] at hs2
   clear hl hwd hvr hls hob hip hrf ht hd hk2 hk02 hc2 hZ bA hR2 bw1 bw2
   unfold leafC
   go_wp2_with (first
    | refine wpList_store_mid (by rfl) 33 _ _ (by rfl) w.heap.size 0 #[.int .i64 kk,.string tt,.bool false,.slice none 0 0,.slice none 0 0,.int .i64 t.ln,.int .i64 t.co] (by rfl) (by rfl) (uh HT) infoLt (dt.one_cells (cs:=[.int .i64 kk,.string tt,.bool false,.slice none 0 0,.slice none 0 0,.int .i64 t.ln,.int .i64 t.co]) (by rfl)) ?_)
   refine bodyPost_ret (rgn.result_row_tmp rfl _ _ w.heap.size 0 [.int .i64 kk,.string tt,.bool false,.slice none 0 0,.slice none 0 0,.int .i64 t.ln,.int .i64 t.co] _ rfl (World.rangeAt_setCells_same _ _ _ _ (uh HT)) Tryz.underlying33 rfl infoLt) rfl ?_
   rw [uh hs2]
   exact ⟨_,[],rfl,⟨leaf_shape kk tt false t.ln t.co,leaf_ow _ kk tt false t.ln t.co,List.nodup_nil,by simp⟩,(uh HC).out hne hnp _ _,(uh HK).out (Nat.le_refl _) _ _⟩
  have e3:(t.k == 3) = false:=by simpa using h3
  have hS2:=Hi (show litS L ct c = (if c.isP bDol ∧ ct = false then varS c else if c.isP bLb then listS L c else if c.isP bLc then objS L c else (none,c.stop 70)) from by rw [uh hSS,if_neg h4,if_neg h5,if_neg (fun e => e.elim h6 h7),if_neg h3])
  clear h4 h5 h6 h7 h3 hm hSS hl hwd
  cases hP1:c.isP bDol
  ·cases ct
   ·cases hP2:c.isP bLb
    ·cases hP3:c.isP bLc
     ·have hs2:=Hi (show litS L false c = (none,c.stop 70) from by rw [uh hS2,if_neg (fun e => by rw [hP1] at e;exact absurd e.1 (by simp)),if_neg (by rw [hP2];simp),if_neg (by rw [hP3];simp)])
      clear hS2
      go_enter Tryz.func17,Tryz.ntmps17
      go_wp2_with fail
      refine ((uh hd) _ ((uh bA) _)).mono ?_
      rintro e w1 ⟨rfl,rfl⟩
      go_wp2_with fail
      refine ((uh ht) _ ((uh bA) _)).mono ?_
      rintro e w1 ⟨rfl,b1⟩
      have bw1:=((uh bA) _).trans (b1.mono ((uh bA) _).size)
      have c2:=b1.alloc b1.size (.cells #[.int .i64 t.k,.int .i64 t.ln,.int .i64 t.co,.int .i64 t.fr,.int .i64 t.to,.string t.tx,.string t.va] 77)
      have bw2:=((uh bA) _).trans (c2.mono ((uh bA) _).size)
      go_wp2_with fail
      refine ((uh hip) bDol _ bw2).mono ?_
      rintro e w3 ⟨rfl,b3⟩
      rw [hP1]
      have c3:=c2.trans (b3.mono c2.size)
      have bw3:=((uh bA) _).trans (c3.mono ((uh bA) _).size)
      go_wp2_with fail
      refine ((uh hip) bLb _ bw3).mono ?_
      rintro e w4 ⟨rfl,b4⟩
      rw [hP2]
      have c4:=c3.trans (b4.mono c3.size)
      have bw4:=((uh bA) _).trans (c4.mono ((uh bA) _).size)
      go_wp2_with fail
      refine ((uh hip) bLc _ bw4).mono ?_
      rintro e w5 ⟨rfl,b5⟩
      rw [hP3]
      have c5:=c4.trans (b5.mono c4.size)
      have bw5:=((uh bA) _).trans (c5.mono ((uh bA) _).size)
      go_wp2_with fail
      refine ((uh hrf) _ bw5).mono ?_
      rintro e w9 ⟨rfl,hc9,hk9⟩
      have hk09:=(Kp.of c5).trans hk9
      have hR9:=(uh hZ) _ w9 hk09
      have HT:=Hi (dt.there_cells hR9 (o:=0) (n:=7) (by decide))
      have HK:=Hi ((Kp.of ((uh bA) _)).trans hk09)
      have HC:=Hi hc9
      clear hvr hls hob hip hrf ht hd hk9 hk09 hc9 hZ bA hR9
      go_wp2_with (first
       | refine wpList_store_mid (by rfl) 33 _ _ (by rfl) w.heap.size 0 #[.int .i64 0,.string ⟨#[]⟩,.bool false,.slice none 0 0,.slice none 0 0,.int .i64 0,.int .i64 0] (by rfl) (by rfl) (uh HT) infoLt (dt.one_cells (cs:=[.int .i64 0,.string ⟨#[]⟩,.bool false,.slice none 0 0,.slice none 0 0,.int .i64 0,.int .i64 0]) (by rfl)) ?_)
      refine bodyPost_ret (rgn.result_row_tmp rfl _ _ w.heap.size 0 [.int .i64 0,.string ⟨#[]⟩,.bool false,.slice none 0 0,.slice none 0 0,.int .i64 0,.int .i64 0] _ rfl (World.rangeAt_setCells_same _ _ _ _ (uh HT)) Tryz.underlying33 rfl infoLt) rfl ?_
      rw [uh hs2]
      exact ⟨_,[],rfl,⟨leaf_shape 0 em false 0 0,leaf_ow _ 0 em false 0 0,List.nodup_nil,by simp⟩,(uh HC).out hne hnp _ _,(uh HK).out (Nat.le_refl _) _ _⟩
     ·have hs2:=Hi (show litS L false c = objS L c from by rw [uh hS2,if_neg (fun e => by rw [hP1] at e;exact absurd e.1 (by simp)),if_neg (by rw [hP2];simp),if_pos hP3])
      clear hS2
      go_enter Tryz.func17,Tryz.ntmps17
      go_wp2_with fail
      refine ((uh hd) _ ((uh bA) _)).mono ?_
      rintro e w1 ⟨rfl,rfl⟩
      go_wp2_with fail
      refine ((uh ht) _ ((uh bA) _)).mono ?_
      rintro e w1 ⟨rfl,b1⟩
      have bw1:=((uh bA) _).trans (b1.mono ((uh bA) _).size)
      have c2:=b1.alloc b1.size (.cells #[.int .i64 t.k,.int .i64 t.ln,.int .i64 t.co,.int .i64 t.fr,.int .i64 t.to,.string t.tx,.string t.va] 77)
      have bw2:=((uh bA) _).trans (c2.mono ((uh bA) _).size)
      go_wp2_with fail
      refine ((uh hip) bDol _ bw2).mono ?_
      rintro e w3 ⟨rfl,b3⟩
      rw [hP1]
      have c3:=c2.trans (b3.mono c2.size)
      have bw3:=((uh bA) _).trans (c3.mono ((uh bA) _).size)
      go_wp2_with fail
      refine ((uh hip) bLb _ bw3).mono ?_
      rintro e w4 ⟨rfl,b4⟩
      rw [hP2]
      have c4:=c3.trans (b4.mono c3.size)
      have bw4:=((uh bA) _).trans (c4.mono ((uh bA) _).size)
      go_wp2_with fail
      refine ((uh hip) bLc _ bw4).mono ?_
      rintro e w5 ⟨rfl,b5⟩
      rw [hP3]
      have c5:=c4.trans (b5.mono c4.size)
      have bw5:=((uh bA) _).trans (c5.mono ((uh bA) _).size)
      go_wp2_with fail
      refine ((uh hob) _ bw5).mono ?_
      rintro e w9 ⟨cs,F,rfl,hpo,hc9,hk9⟩
      obtain ⟨kk,tt,bl,ai,ni,ci,af,nf,cf,ln,co,rfl⟩:=hpo.shape
      have hk09:=(Kp.of c5).trans hk9
      have hR9:=(uh hZ) _ w9 hk09
      have HT:=Hi (dt.there_cells hR9 (o:=0) (n:=7) (by decide))
      have HK:=Hi ((Kp.of ((uh bA) _)).trans hk09)
      have HC:=Hi hc9
      have HP:=Hi hpo
      have hlo:=Hi (show w.heap.size < w5.heap.size from by have:=c5.size;simp at this;omega)
      clear hvr hls hob hip hrf ht hd hk9 hk09 hc9 hZ bA hR9 hpo
      go_wp2_with (first
       | refine wpList_store_mid (by rfl) 33 _ _ (by rfl) w.heap.size 0 #[.int .i64 kk,.string tt,.bool bl,.slice ai ni ci,.slice af nf cf,.int .i64 ln,.int .i64 co] (by rfl) (by rfl) (uh HT) infoLt (dt.one_cells (cs:=[.int .i64 kk,.string tt,.bool bl,.slice ai ni ci,.slice af nf cf,.int .i64 ln,.int .i64 co]) (by rfl)) ?_)
      refine bodyPost_ret (rgn.result_row_tmp rfl _ _ w.heap.size 0 [.int .i64 kk,.string tt,.bool bl,.slice ai ni ci,.slice af nf cf,.int .i64 ln,.int .i64 co] _ rfl (World.rangeAt_setCells_same _ _ _ _ (uh HT)) Tryz.underlying33 rfl infoLt) rfl ?_
      rw [uh hs2]
      exact ⟨_,F,rfl,⟨(uh HP).shape,ow_out (uh HP).own (fun hm => by have:=((uh HP).rng _ hm).1;have:=uh hlo;omega) _ _,(uh HP).nodup,fun b hb => ⟨by have:=((uh HP).rng b hb).1;have:=uh hlo;omega,by rw [dt.size_setCells];exact ((uh HP).rng b hb).2⟩⟩,(uh HC).out hne hnp _ _,(uh HK).out (Nat.le_refl _) _ _⟩
    ·have hs2:=Hi (show litS L false c = listS L c from by rw [uh hS2,if_neg (fun e => by rw [hP1] at e;exact absurd e.1 (by simp)),if_pos hP2])
     clear hS2
     go_enter Tryz.func17,Tryz.ntmps17
     go_wp2_with fail
     refine ((uh hd) _ ((uh bA) _)).mono ?_
     rintro e w1 ⟨rfl,rfl⟩
     go_wp2_with fail
     refine ((uh ht) _ ((uh bA) _)).mono ?_
     rintro e w1 ⟨rfl,b1⟩
     have bw1:=((uh bA) _).trans (b1.mono ((uh bA) _).size)
     have c2:=b1.alloc b1.size (.cells #[.int .i64 t.k,.int .i64 t.ln,.int .i64 t.co,.int .i64 t.fr,.int .i64 t.to,.string t.tx,.string t.va] 77)
     have bw2:=((uh bA) _).trans (c2.mono ((uh bA) _).size)
     go_wp2_with fail
     refine ((uh hip) bDol _ bw2).mono ?_
     rintro e w3 ⟨rfl,b3⟩
     rw [hP1]
     have c3:=c2.trans (b3.mono c2.size)
     have bw3:=((uh bA) _).trans (c3.mono ((uh bA) _).size)
     go_wp2_with fail
     refine ((uh hip) bLb _ bw3).mono ?_
     rintro e w4 ⟨rfl,b4⟩
     rw [hP2]
     have c4:=c3.trans (b4.mono c3.size)
     have bw4:=((uh bA) _).trans (c4.mono ((uh bA) _).size)
     go_wp2_with fail
     refine ((uh hls) _ bw4).mono ?_
     rintro e w9 ⟨cs,F,rfl,hpo,hc9,hk9⟩
     obtain ⟨kk,tt,bl,ai,ni,ci,af,nf,cf,ln,co,rfl⟩:=hpo.shape
     have hk09:=(Kp.of c4).trans hk9
     have hR9:=(uh hZ) _ w9 hk09
     have HT:=Hi (dt.there_cells hR9 (o:=0) (n:=7) (by decide))
     have HK:=Hi ((Kp.of ((uh bA) _)).trans hk09)
     have HC:=Hi hc9
     have HP:=Hi hpo
     have hlo:=Hi (show w.heap.size < w4.heap.size from by have:=c4.size;simp at this;omega)
     clear hvr hls hob hip hrf ht hd hk9 hk09 hc9 hZ bA hR9 hpo
     go_wp2_with (first
      | refine wpList_store_mid (by rfl) 33 _ _ (by rfl) w.heap.size 0 #[.int .i64 kk,.string tt,.bool bl,.slice ai ni ci,.slice af nf cf,.int .i64 ln,.int .i64 co] (by rfl) (by rfl) (uh HT) infoLt (dt.one_cells (cs:=[.int .i64 kk,.string tt,.bool bl,.slice ai ni ci,.slice af nf cf,.int .i64 ln,.int .i64 co]) (by rfl)) ?_)
     refine bodyPost_ret (rgn.result_row_tmp rfl _ _ w.heap.size 0 [.int .i64 kk,.string tt,.bool bl,.slice ai ni ci,.slice af nf cf,.int .i64 ln,.int .i64 co] _ rfl (World.rangeAt_setCells_same _ _ _ _ (uh HT)) Tryz.underlying33 rfl infoLt) rfl ?_
     rw [uh hs2]
     exact ⟨_,F,rfl,⟨(uh HP).shape,ow_out (uh HP).own (fun hm => by have:=((uh HP).rng _ hm).1;have:=uh hlo;omega) _ _,(uh HP).nodup,fun b hb => ⟨by have:=((uh HP).rng b hb).1;have:=uh hlo;omega,by rw [dt.size_setCells];exact ((uh HP).rng b hb).2⟩⟩,(uh HC).out hne hnp _ _,(uh HK).out (Nat.le_refl _) _ _⟩
   ·cases hP2:c.isP bLb
    ·cases hP3:c.isP bLc
     ·have hs2:=Hi (show litS L true c = (none,c.stop 70) from by rw [uh hS2,if_neg (fun e => by rw [hP1] at e;exact absurd e.1 (by simp)),if_neg (by rw [hP2];simp),if_neg (by rw [hP3];simp)])
      clear hS2
      go_enter Tryz.func17,Tryz.ntmps17
      go_wp2_with fail
      refine ((uh hd) _ ((uh bA) _)).mono ?_
      rintro e w1 ⟨rfl,rfl⟩
      go_wp2_with fail
      refine ((uh ht) _ ((uh bA) _)).mono ?_
      rintro e w1 ⟨rfl,b1⟩
      have bw1:=((uh bA) _).trans (b1.mono ((uh bA) _).size)
      have c2:=b1.alloc b1.size (.cells #[.int .i64 t.k,.int .i64 t.ln,.int .i64 t.co,.int .i64 t.fr,.int .i64 t.to,.string t.tx,.string t.va] 77)
      have bw2:=((uh bA) _).trans (c2.mono ((uh bA) _).size)
      go_wp2_with fail
      refine ((uh hip) bDol _ bw2).mono ?_
      rintro e w3 ⟨rfl,b3⟩
      rw [hP1]
      have c3:=c2.trans (b3.mono c2.size)
      have bw3:=((uh bA) _).trans (c3.mono ((uh bA) _).size)
      go_wp2_with fail
      refine ((uh hip) bLb _ bw3).mono ?_
      rintro e w4 ⟨rfl,b4⟩
      rw [hP2]
      have c4:=c3.trans (b4.mono c3.size)
      have bw4:=((uh bA) _).trans (c4.mono ((uh bA) _).size)
      go_wp2_with fail
      refine ((uh hip) bLc _ bw4).mono ?_
      rintro e w5 ⟨rfl,b5⟩
      rw [hP3]
      have c5:=c4.trans (b5.mono c4.size)
      have bw5:=((uh bA) _).trans (c5.mono ((uh bA) _).size)
      go_wp2_with fail
      refine ((uh hrf) _ bw5).mono ?_
      rintro e w9 ⟨rfl,hc9,hk9⟩
      have hk09:=(Kp.of c5).trans hk9
      have hR9:=(uh hZ) _ w9 hk09
      have HT:=Hi (dt.there_cells hR9 (o:=0) (n:=7) (by decide))
      have HK:=Hi ((Kp.of ((uh bA) _)).trans hk09)
      have HC:=Hi hc9
      clear hvr hls hob hip hrf ht hd hk9 hk09 hc9 hZ bA hR9
      go_wp2_with (first
       | refine wpList_store_mid (by rfl) 33 _ _ (by rfl) w.heap.size 0 #[.int .i64 0,.string ⟨#[]⟩,.bool false,.slice none 0 0,.slice none 0 0,.int .i64 0,.int .i64 0] (by rfl) (by rfl) (uh HT) infoLt (dt.one_cells (cs:=[.int .i64 0,.string ⟨#[]⟩,.bool false,.slice none 0 0,.slice none 0 0,.int .i64 0,.int .i64 0]) (by rfl)) ?_)
      refine bodyPost_ret (rgn.result_row_tmp rfl _ _ w.heap.size 0 [.int .i64 0,.string ⟨#[]⟩,.bool false,.slice none 0 0,.slice none 0 0,.int .i64 0,.int .i64 0] _ rfl (World.rangeAt_setCells_same _ _ _ _ (uh HT)) Tryz.underlying33 rfl infoLt) rfl ?_
      rw [uh hs2]
      exact ⟨_,[],rfl,⟨leaf_shape 0 em false 0 0,leaf_ow _ 0 em false 0 0,List.nodup_nil,by simp⟩,(uh HC).out hne hnp _ _,(uh HK).out (Nat.le_refl _) _ _⟩
     ·have hs2:=Hi (show litS L true c = objS L c from by rw [uh hS2,if_neg (fun e => by rw [hP1] at e;exact absurd e.1 (by simp)),if_neg (by rw [hP2];simp),if_pos hP3])
      clear hS2
      go_enter Tryz.func17,Tryz.ntmps17
      go_wp2_with fail
      refine ((uh hd) _ ((uh bA) _)).mono ?_
      rintro e w1 ⟨rfl,rfl⟩
      go_wp2_with fail
      refine ((uh ht) _ ((uh bA) _)).mono ?_
      rintro e w1 ⟨rfl,b1⟩
      have bw1:=((uh bA) _).trans (b1.mono ((uh bA) _).size)
      have c2:=b1.alloc b1.size (.cells #[.int .i64 t.k,.int .i64 t.ln,.int .i64 t.co,.int .i64 t.fr,.int .i64 t.to,.string t.tx,.string t.va] 77)
      have bw2:=((uh bA) _).trans (c2.mono ((uh bA) _).size)
      go_wp2_with fail
      refine ((uh hip) bDol _ bw2).mono ?_
      rintro e w3 ⟨rfl,b3⟩
      rw [hP1]
      have c3:=c2.trans (b3.mono c2.size)
      have bw3:=((uh bA) _).trans (c3.mono ((uh bA) _).size)
      go_wp2_with fail
      refine ((uh hip) bLb _ bw3).mono ?_
      rintro e w4 ⟨rfl,b4⟩
      rw [hP2]
      have c4:=c3.trans (b4.mono c3.size)
      have bw4:=((uh bA) _).trans (c4.mono ((uh bA) _).size)
      go_wp2_with fail
      refine ((uh hip) bLc _ bw4).mono ?_
      rintro e w5 ⟨rfl,b5⟩
      rw [hP3]
      have c5:=c4.trans (b5.mono c4.size)
      have bw5:=((uh bA) _).trans (c5.mono ((uh bA) _).size)
      go_wp2_with fail
      refine ((uh hob) _ bw5).mono ?_
      rintro e w9 ⟨cs,F,rfl,hpo,hc9,hk9⟩
      obtain ⟨kk,tt,bl,ai,ni,ci,af,nf,cf,ln,co,rfl⟩:=hpo.shape
      have hk09:=(Kp.of c5).trans hk9
      have hR9:=(uh hZ) _ w9 hk09
      have HT:=Hi (dt.there_cells hR9 (o:=0) (n:=7) (by decide))
      have HK:=Hi ((Kp.of ((uh bA) _)).trans hk09)
      have HC:=Hi hc9
      have HP:=Hi hpo
      have hlo:=Hi (show w.heap.size < w5.heap.size from by have:=c5.size;simp at this;omega)
      clear hvr hls hob hip hrf ht hd hk9 hk09 hc9 hZ bA hR9 hpo
      go_wp2_with (first
       | refine wpList_store_mid (by rfl) 33 _ _ (by rfl) w.heap.size 0 #[.int .i64 kk,.string tt,.bool bl,.slice ai ni ci,.slice af nf cf,.int .i64 ln,.int .i64 co] (by rfl) (by rfl) (uh HT) infoLt (dt.one_cells (cs:=[.int .i64 kk,.string tt,.bool bl,.slice ai ni ci,.slice af nf cf,.int .i64 ln,.int .i64 co]) (by rfl)) ?_)
      refine bodyPost_ret (rgn.result_row_tmp rfl _ _ w.heap.size 0 [.int .i64 kk,.string tt,.bool bl,.slice ai ni ci,.slice af nf cf,.int .i64 ln,.int .i64 co] _ rfl (World.rangeAt_setCells_same _ _ _ _ (uh HT)) Tryz.underlying33 rfl infoLt) rfl ?_
      rw [uh hs2]
      exact ⟨_,F,rfl,⟨(uh HP).shape,ow_out (uh HP).own (fun hm => by have:=((uh HP).rng _ hm).1;have:=uh hlo;omega) _ _,(uh HP).nodup,fun b hb => ⟨by have:=((uh HP).rng b hb).1;have:=uh hlo;omega,by rw [dt.size_setCells];exact ((uh HP).rng b hb).2⟩⟩,(uh HC).out hne hnp _ _,(uh HK).out (Nat.le_refl _) _ _⟩
    ·have hs2:=Hi (show litS L true c = listS L c from by rw [uh hS2,if_neg (fun e => by rw [hP1] at e;exact absurd e.1 (by simp)),if_pos hP2])
     clear hS2
     go_enter Tryz.func17,Tryz.ntmps17
     go_wp2_with fail
     refine ((uh hd) _ ((uh bA) _)).mono ?_
     rintro e w1 ⟨rfl,rfl⟩
     go_wp2_with fail
     refine ((uh ht) _ ((uh bA) _)).mono ?_
     rintro e w1 ⟨rfl,b1⟩
     have bw1:=((uh bA) _).trans (b1.mono ((uh bA) _).size)
     have c2:=b1.alloc b1.size (.cells #[.int .i64 t.k,.int .i64 t.ln,.int .i64 t.co,.int .i64 t.fr,.int .i64 t.to,.string t.tx,.string t.va] 77)
     have bw2:=((uh bA) _).trans (c2.mono ((uh bA) _).size)
     go_wp2_with fail
     refine ((uh hip) bDol _ bw2).mono ?_
     rintro e w3 ⟨rfl,b3⟩
     rw [hP1]
     have c3:=c2.trans (b3.mono c2.size)
     have bw3:=((uh bA) _).trans (c3.mono ((uh bA) _).size)
     go_wp2_with fail
     refine ((uh hip) bLb _ bw3).mono ?_
     rintro e w4 ⟨rfl,b4⟩
     rw [hP2]
     have c4:=c3.trans (b4.mono c3.size)
     have bw4:=((uh bA) _).trans (c4.mono ((uh bA) _).size)
     go_wp2_with fail
     refine ((uh hls) _ bw4).mono ?_
     rintro e w9 ⟨cs,F,rfl,hpo,hc9,hk9⟩
     obtain ⟨kk,tt,bl,ai,ni,ci,af,nf,cf,ln,co,rfl⟩:=hpo.shape
     have hk09:=(Kp.of c4).trans hk9
     have hR9:=(uh hZ) _ w9 hk09
     have HT:=Hi (dt.there_cells hR9 (o:=0) (n:=7) (by decide))
     have HK:=Hi ((Kp.of ((uh bA) _)).trans hk09)
     have HC:=Hi hc9
     have HP:=Hi hpo
     have hlo:=Hi (show w.heap.size < w4.heap.size from by have:=c4.size;simp at this;omega)
     clear hvr hls hob hip hrf ht hd hk9 hk09 hc9 hZ bA hR9 hpo
     go_wp2_with (first
      | refine wpList_store_mid (by rfl) 33 _ _ (by rfl) w.heap.size 0 #[.int .i64 kk,.string tt,.bool bl,.slice ai ni ci,.slice af nf cf,.int .i64 ln,.int .i64 co] (by rfl) (by rfl) (uh HT) infoLt (dt.one_cells (cs:=[.int .i64 kk,.string tt,.bool bl,.slice ai ni ci,.slice af nf cf,.int .i64 ln,.int .i64 co]) (by rfl)) ?_)
     refine bodyPost_ret (rgn.result_row_tmp rfl _ _ w.heap.size 0 [.int .i64 kk,.string tt,.bool bl,.slice ai ni ci,.slice af nf cf,.int .i64 ln,.int .i64 co] _ rfl (World.rangeAt_setCells_same _ _ _ _ (uh HT)) Tryz.underlying33 rfl infoLt) rfl ?_
     rw [uh hs2]
     exact ⟨_,F,rfl,⟨(uh HP).shape,ow_out (uh HP).own (fun hm => by have:=((uh HP).rng _ hm).1;have:=uh hlo;omega) _ _,(uh HP).nodup,fun b hb => ⟨by have:=((uh HP).rng b hb).1;have:=uh hlo;omega,by rw [dt.size_setCells];exact ((uh HP).rng b hb).2⟩⟩,(uh HC).out hne hnp _ _,(uh HK).out (Nat.le_refl _) _ _⟩
  ·cases ct
   ·have hs2:=Hi (show litS L false c = varS c from by rw [uh hS2,if_pos ⟨hP1,rfl⟩])
    clear hS2
    go_enter Tryz.func17,Tryz.ntmps17
    go_wp2_with fail
    refine ((uh hd) _ ((uh bA) _)).mono ?_
    rintro e w1 ⟨rfl,rfl⟩
    go_wp2_with fail
    refine ((uh ht) _ ((uh bA) _)).mono ?_
    rintro e w1 ⟨rfl,b1⟩
    have bw1:=((uh bA) _).trans (b1.mono ((uh bA) _).size)
    have c2:=b1.alloc b1.size (.cells #[.int .i64 t.k,.int .i64 t.ln,.int .i64 t.co,.int .i64 t.fr,.int .i64 t.to,.string t.tx,.string t.va] 77)
    have bw2:=((uh bA) _).trans (c2.mono ((uh bA) _).size)
    go_wp2_with fail
    refine ((uh hip) bDol _ bw2).mono ?_
    rintro e w3 ⟨rfl,b3⟩
    rw [hP1]
    have c3:=c2.trans (b3.mono c2.size)
    have bw3:=((uh bA) _).trans (c3.mono ((uh bA) _).size)
    go_wp2_with fail
    refine ((uh hvr) _ bw3 ((uh hmP) bDol hP1)).mono ?_
    rintro e w9 ⟨rfl,hc9,hk9⟩
    obtain ⟨d,v1,v2,v3,kk,tt,ln,co,v4,v5⟩:=var_post c
    have hk09:=(Kp.of c3).trans hk9
    have hR9:=(uh hZ) _ w9 hk09
    have HT:=Hi (dt.there_cells hR9 (o:=0) (n:=7) (by decide))
    have HK:=Hi ((Kp.of ((uh bA) _)).trans hk09)
    have HC:=Hi hc9
    have HV:=Hi (And.intro v1 (And.intro v2 (And.intro v3 v5)))
    rw [v4]
    unfold leafC
    clear hvr hls hob hip hrf ht hd hk9 hk09 hc9 hZ bA hR9 v1 v2 v3 v4 v5
    obtain ⟨R,hR⟩:∃ R,R = c.take.isN:=⟨_,rfl⟩
    rw [← hR] at HV ⊢
    clear hR
    go_wp2_with (first
     | refine wpList_store_mid (by rfl) 33 _ _ (by rfl) w.heap.size 0 #[.int .i64 kk,.string tt,.bool false,.slice none 0 0,.slice none 0 0,.int .i64 ln,.int .i64 co] (by rfl) (by rfl) (uh HT) infoLt (dt.one_cells (cs:=[.int .i64 kk,.string tt,.bool false,.slice none 0 0,.slice none 0 0,.int .i64 ln,.int .i64 co]) (by rfl)) ?_)
    refine bodyPost_ret (rgn.result_row_tmp rfl _ _ w.heap.size 0 [.int .i64 kk,.string tt,.bool false,.slice none 0 0,.slice none 0 0,.int .i64 ln,.int .i64 co] _ rfl (World.rangeAt_setCells_same _ _ _ _ (uh HT)) Tryz.underlying33 rfl infoLt) rfl ?_
    rw [uh hs2]
    obtain ⟨v1,v2,v3,v5⟩:=uh HV
    rw [v1,v2,v3,v5]
    exact ⟨_,[],rfl,⟨leaf_shape kk tt false ln co,leaf_ow _ kk tt false ln co,List.nodup_nil,by simp⟩,(uh HC).out hne hnp _ _,(uh HK).out (Nat.le_refl _) _ _⟩
   ·cases hP2:c.isP bLb
    ·cases hP3:c.isP bLc
     ·have hs2:=Hi (show litS L true c = (none,c.stop 70) from by rw [uh hS2,if_neg (fun e => by exact absurd e.2 (by simp)),if_neg (by rw [hP2];simp),if_neg (by rw [hP3];simp)])
      clear hS2
      go_enter Tryz.func17,Tryz.ntmps17
      go_wp2_with fail
      refine ((uh hd) _ ((uh bA) _)).mono ?_
      rintro e w1 ⟨rfl,rfl⟩
      go_wp2_with fail
      refine ((uh ht) _ ((uh bA) _)).mono ?_
      rintro e w1 ⟨rfl,b1⟩
      have bw1:=((uh bA) _).trans (b1.mono ((uh bA) _).size)
      have c2:=b1.alloc b1.size (.cells #[.int .i64 t.k,.int .i64 t.ln,.int .i64 t.co,.int .i64 t.fr,.int .i64 t.to,.string t.tx,.string t.va] 77)
      have bw2:=((uh bA) _).trans (c2.mono ((uh bA) _).size)
      go_wp2_with fail
      refine ((uh hip) bDol _ bw2).mono ?_
      rintro e w3 ⟨rfl,b3⟩
      rw [hP1]
      have c3:=c2.trans (b3.mono c2.size)
      have bw3:=((uh bA) _).trans (c3.mono ((uh bA) _).size)
      go_wp2_with fail
      refine ((uh hip) bLb _ bw3).mono ?_
      rintro e w4 ⟨rfl,b4⟩
      rw [hP2]
      have c4:=c3.trans (b4.mono c3.size)
      have bw4:=((uh bA) _).trans (c4.mono ((uh bA) _).size)
      go_wp2_with fail
      refine ((uh hip) bLc _ bw4).mono ?_
      rintro e w5 ⟨rfl,b5⟩
      rw [hP3]
      have c5:=c4.trans (b5.mono c4.size)
      have bw5:=((uh bA) _).trans (c5.mono ((uh bA) _).size)
      go_wp2_with fail
      refine ((uh hrf) _ bw5).mono ?_
      rintro e w9 ⟨rfl,hc9,hk9⟩
      have hk09:=(Kp.of c5).trans hk9
      have hR9:=(uh hZ) _ w9 hk09
      have HT:=Hi (dt.there_cells hR9 (o:=0) (n:=7) (by decide))
      have HK:=Hi ((Kp.of ((uh bA) _)).trans hk09)
      have HC:=Hi hc9
      clear hvr hls hob hip hrf ht hd hk9 hk09 hc9 hZ bA hR9
      go_wp2_with (first
       | refine wpList_store_mid (by rfl) 33 _ _ (by rfl) w.heap.size 0 #[.int .i64 0,.string ⟨#[]⟩,.bool false,.slice none 0 0,.slice none 0 0,.int .i64 0,.int .i64 0] (by rfl) (by rfl) (uh HT) infoLt (dt.one_cells (cs:=[.int .i64 0,.string ⟨#[]⟩,.bool false,.slice none 0 0,.slice none 0 0,.int .i64 0,.int .i64 0]) (by rfl)) ?_)
      refine bodyPost_ret (rgn.result_row_tmp rfl _ _ w.heap.size 0 [.int .i64 0,.string ⟨#[]⟩,.bool false,.slice none 0 0,.slice none 0 0,.int .i64 0,.int .i64 0] _ rfl (World.rangeAt_setCells_same _ _ _ _ (uh HT)) Tryz.underlying33 rfl infoLt) rfl ?_
      rw [uh hs2]
      exact ⟨_,[],rfl,⟨leaf_shape 0 em false 0 0,leaf_ow _ 0 em false 0 0,List.nodup_nil,by simp⟩,(uh HC).out hne hnp _ _,(uh HK).out (Nat.le_refl _) _ _⟩
     ·have hs2:=Hi (show litS L true c = objS L c from by rw [uh hS2,if_neg (fun e => by exact absurd e.2 (by simp)),if_neg (by rw [hP2];simp),if_pos hP3])
      clear hS2
      go_enter Tryz.func17,Tryz.ntmps17
      go_wp2_with fail
      refine ((uh hd) _ ((uh bA) _)).mono ?_
      rintro e w1 ⟨rfl,rfl⟩
      go_wp2_with fail
      refine ((uh ht) _ ((uh bA) _)).mono ?_
      rintro e w1 ⟨rfl,b1⟩
      have bw1:=((uh bA) _).trans (b1.mono ((uh bA) _).size)
      have c2:=b1.alloc b1.size (.cells #[.int .i64 t.k,.int .i64 t.ln,.int .i64 t.co,.int .i64 t.fr,.int .i64 t.to,.string t.tx,.string t.va] 77)
      have bw2:=((uh bA) _).trans (c2.mono ((uh bA) _).size)
      go_wp2_with fail
      refine ((uh hip) bDol _ bw2).mono ?_
      rintro e w3 ⟨rfl,b3⟩
      rw [hP1]
      have c3:=c2.trans (b3.mono c2.size)
      have bw3:=((uh bA) _).trans (c3.mono ((uh bA) _).size)
      go_wp2_with fail
      refine ((uh hip) bLb _ bw3).mono ?_
      rintro e w4 ⟨rfl,b4⟩
      rw [hP2]
      have c4:=c3.trans (b4.mono c3.size)
      have bw4:=((uh bA) _).trans (c4.mono ((uh bA) _).size)
      go_wp2_with fail
      refine ((uh hip) bLc _ bw4).mono ?_
      rintro e w5 ⟨rfl,b5⟩
      rw [hP3]
      have c5:=c4.trans (b5.mono c4.size)
      have bw5:=((uh bA) _).trans (c5.mono ((uh bA) _).size)
      go_wp2_with fail
      refine ((uh hob) _ bw5).mono ?_
      rintro e w9 ⟨cs,F,rfl,hpo,hc9,hk9⟩
      obtain ⟨kk,tt,bl,ai,ni,ci,af,nf,cf,ln,co,rfl⟩:=hpo.shape
      have hk09:=(Kp.of c5).trans hk9
      have hR9:=(uh hZ) _ w9 hk09
      have HT:=Hi (dt.there_cells hR9 (o:=0) (n:=7) (by decide))
      have HK:=Hi ((Kp.of ((uh bA) _)).trans hk09)
      have HC:=Hi hc9
      have HP:=Hi hpo
      have hlo:=Hi (show w.heap.size < w5.heap.size from by have:=c5.size;simp at this;omega)
      clear hvr hls hob hip hrf ht hd hk9 hk09 hc9 hZ bA hR9 hpo
      go_wp2_with (first
       | refine wpList_store_mid (by rfl) 33 _ _ (by rfl) w.heap.size 0 #[.int .i64 kk,.string tt,.bool bl,.slice ai ni ci,.slice af nf cf,.int .i64 ln,.int .i64 co] (by rfl) (by rfl) (uh HT) infoLt (dt.one_cells (cs:=[.int .i64 kk,.string tt,.bool bl,.slice ai ni ci,.slice af nf cf,.int .i64 ln,.int .i64 co]) (by rfl)) ?_)
      refine bodyPost_ret (rgn.result_row_tmp rfl _ _ w.heap.size 0 [.int .i64 kk,.string tt,.bool bl,.slice ai ni ci,.slice af nf cf,.int .i64 ln,.int .i64 co] _ rfl (World.rangeAt_setCells_same _ _ _ _ (uh HT)) Tryz.underlying33 rfl infoLt) rfl ?_
      rw [uh hs2]
      exact ⟨_,F,rfl,⟨(uh HP).shape,ow_out (uh HP).own (fun hm => by have:=((uh HP).rng _ hm).1;have:=uh hlo;omega) _ _,(uh HP).nodup,fun b hb => ⟨by have:=((uh HP).rng b hb).1;have:=uh hlo;omega,by rw [dt.size_setCells];exact ((uh HP).rng b hb).2⟩⟩,(uh HC).out hne hnp _ _,(uh HK).out (Nat.le_refl _) _ _⟩
    ·have hs2:=Hi (show litS L true c = listS L c from by rw [uh hS2,if_neg (fun e => by exact absurd e.2 (by simp)),if_pos hP2])
     clear hS2
     go_enter Tryz.func17,Tryz.ntmps17
     go_wp2_with fail
     refine ((uh hd) _ ((uh bA) _)).mono ?_
     rintro e w1 ⟨rfl,rfl⟩
     go_wp2_with fail
     refine ((uh ht) _ ((uh bA) _)).mono ?_
     rintro e w1 ⟨rfl,b1⟩
     have bw1:=((uh bA) _).trans (b1.mono ((uh bA) _).size)
     have c2:=b1.alloc b1.size (.cells #[.int .i64 t.k,.int .i64 t.ln,.int .i64 t.co,.int .i64 t.fr,.int .i64 t.to,.string t.tx,.string t.va] 77)
     have bw2:=((uh bA) _).trans (c2.mono ((uh bA) _).size)
     go_wp2_with fail
     refine ((uh hip) bDol _ bw2).mono ?_
     rintro e w3 ⟨rfl,b3⟩
     rw [hP1]
     have c3:=c2.trans (b3.mono c2.size)
     have bw3:=((uh bA) _).trans (c3.mono ((uh bA) _).size)
     go_wp2_with fail
     refine ((uh hip) bLb _ bw3).mono ?_
     rintro e w4 ⟨rfl,b4⟩
     rw [hP2]
     have c4:=c3.trans (b4.mono c3.size)
     have bw4:=((uh bA) _).trans (c4.mono ((uh bA) _).size)
     go_wp2_with fail
     refine ((uh hls) _ bw4).mono ?_
     rintro e w9 ⟨cs,F,rfl,hpo,hc9,hk9⟩
     obtain ⟨kk,tt,bl,ai,ni,ci,af,nf,cf,ln,co,rfl⟩:=hpo.shape
     have hk09:=(Kp.of c4).trans hk9
     have hR9:=(uh hZ) _ w9 hk09
     have HT:=Hi (dt.there_cells hR9 (o:=0) (n:=7) (by decide))
     have HK:=Hi ((Kp.of ((uh bA) _)).trans hk09)
     have HC:=Hi hc9
     have HP:=Hi hpo
     have hlo:=Hi (show w.heap.size < w4.heap.size from by have:=c4.size;simp at this;omega)
     clear hvr hls hob hip hrf ht hd hk9 hk09 hc9 hZ bA hR9 hpo
     go_wp2_with (first
      | refine wpList_store_mid (by rfl) 33 _ _ (by rfl) w.heap.size 0 #[.int .i64 kk,.string tt,.bool bl,.slice ai ni ci,.slice af nf cf,.int .i64 ln,.int .i64 co] (by rfl) (by rfl) (uh HT) infoLt (dt.one_cells (cs:=[.int .i64 kk,.string tt,.bool bl,.slice ai ni ci,.slice af nf cf,.int .i64 ln,.int .i64 co]) (by rfl)) ?_)
     refine bodyPost_ret (rgn.result_row_tmp rfl _ _ w.heap.size 0 [.int .i64 kk,.string tt,.bool bl,.slice ai ni ci,.slice af nf cf,.int .i64 ln,.int .i64 co] _ rfl (World.rangeAt_setCells_same _ _ _ _ (uh HT)) Tryz.underlying33 rfl infoLt) rfl ?_
     rw [uh hs2]
     exact ⟨_,F,rfl,⟨(uh HP).shape,ow_out (uh HP).own (fun hm => by have:=((uh HP).rng _ hm).1;have:=uh hlo;omega) _ _,(uh HP).nodup,fun b hb => ⟨by have:=((uh HP).rng b hb).1;have:=uh hlo;omega,by rw [dt.size_setCells];exact ((uh HP).rng b hb).2⟩⟩,(uh HC).out hne hnp _ _,(uh HK).out (Nat.le_refl _) _ _⟩
 ·have ekd:(c.kd != 0) = true:=by simpa using hkd
  have hs2:=Hi (show litS L ct c = (none,c) from by unfold litS;rw [if_pos hkd])
  rw [ekd] at hd
  have HC:=Hi (h.below ((uh bA) (.cells #[.int .i64 0,.string ⟨#[]⟩,.bool false,.slice none 0 0,.slice none 0 0,.int .i64 0,.int .i64 0] 33)))
  clear h hls' hob' hkd ekd ht hip hrf hls hob hZ
  unfold ptr at hd ⊢
  go_enter Tryz.func17,Tryz.ntmps17
  go_wp2_with fail
  refine ((uh hd) _ ((uh bA) _)).mono ?_
  rintro e w1 ⟨rfl,rfl⟩
  clear hd
  go_wp2_with fail
  refine bodyPost_ret (rgn.result_row_tmp rfl _ _ w.heap.size 0 [.int .i64 0,.string ⟨#[]⟩,.bool false,.slice none 0 0,.slice none 0 0,.int .i64 0,.int .i64 0] _ rfl (dt.range_cells (heap_alloc_new w _) 0 _ (fun j u hu => by rw [Nat.zero_add];simpa using hu)) Tryz.underlying33 rfl infoLt) rfl ?_
  rw [uh hs2]
  exact ⟨_,[],rfl,⟨leaf_shape 0 em false 0 0,leaf_ow _ 0 em false 0 0,List.nodup_nil,by simp⟩,uh HC,Kp.of ((uh bA) _)⟩
open mem (Row)
theorem litF_dead (ct:Bool):∀ (f:Nat) (c:Cu),c.kd ≠ 0 → (litF ct f c).1 = none
 | 0,c,h => rfl
 | f + 1,c,h => by
  show (litS (litF ct f) ct c).1 = none
  unfold litS
  rw [if_pos h]
theorem dead_stop {c:Cu} (k:Int) (h:c.kd ≠ 0):c.stop k = c:=if_neg h
theorem name_dead (ct:Bool) (f:Nat) (c:Cu) (h:(litF ct f (c.name.want bCol)).1.isSome = true):c.isN = true:=by
 cases hN:c.isN
 ·exfalso
  have h1:c.name = c.stop 70:=by unfold Cu.name;rw [hN];rfl
  have h2:(c.stop 70).kd ≠ 0:=by
   unfold Cu.stop
   split
   ·show (70:Int) ≠ 0;decide
   ·assumption
  have h3:(c.stop 70).want bCol = c.stop 70:=by
   unfold Cu.want
   have:(c.stop 70).isP bCol = false:=by unfold Cu.isP;simp [h2]
   rw [this]
   exact dead_stop 70 h2
  rw [h1,h3,litF_dead ct f _ h2] at h
  cases h
 ·rfl
theorem litF_ok (ct:Bool):∀ (f:Nat) (c:Cu),c.Ok → c.ts.length ≤ 1099511627777 → c.ts.length ≤ f + c.ix → LitAt (litF ct f) ct c
 | 0,c,hc,hl,hf => by have:=hc.lt;omega
 | f + 1,c,hc,hl,hf =>
  lit_ok (litF ct f) ct c hc
   (list_ok (litF ct f) ct c hc hl (litF_goes ct f) (fun cc h1 h2 h3 => litF_ok ct f cc h1 (by rw [h2];exact hl) (by rw [h2];omega)))
   (obj_ok (litF ct f) ct c hc hl (litF_goes ct f) (fun cc h1 h2 h3 => field_ok _ ct cc (arg_ok (litF ct f) ct cc h1
    (by
     have s1:=name_stp h1
     have s2:=want_stp s1.ok bCol
     have s:=s1.trans s2
     exact litF_ok ct f (cc.name.want bCol) s.ok (by rw [s.ts,h2];exact hl) (by rw [s.ts,h2];have:=s.ix;omega))
    (name_dead ct f cc))))
def readL (l:List Int) (ct:Bool) (d:Int):Option Dt × Cu:=
 if (litF ct (lx.tks l 0).length (newS l d)).1.isSome then (if (litF ct (lx.tks l 0).length (newS l d)).2.finB then (litF ct (lx.tks l 0).length (newS l d)).1 else none,(litF ct (lx.tks l 0).length (newS l d)).2.fin) else (none,(litF ct (lx.tks l 0).length (newS l d)).2)
set_option maxRecDepth 4000 in
set_option maxHeartbeats 2000000 in
theorem readLit_ok (a:Option Addr) (n c:Nat) (l:List Int) (ct:Bool) (d:Int) (w:World) (h:Row .u8 w a n c l) (hn:n ≤ 1099511627776) (hp:lx.Plain l) (hd:(Lit.int .i64 d).wf = true) :
  Calls Tryz.prog 6 #[.slice a n c,.bool ct,.int .i64 d] w fun e w' => ∃ cs F fs,e = .returned (.tuple #[.agg cs.toArray,.agg fs.toArray]) ∧ LitPost ((readL l ct d).1.getD zeroD) w w' cs F ∧ FltAt w.heap.size w' (readL l ct d).2 fs ∧ Below w.heap.size w w':=by
 have hN:=Hi (fun W (bb:Below w.heap.size w W) => new_ok a n c l d W (h.below bb) hn hp hd)
 have hok:=newS_ok l d
 have hlen:(newS l d).ts.length ≤ 1099511627777:=by
  have:=tksF_len l (l.length + 1) 0 (Nat.zero_le _)
  show (lx.tksF l (l.length + 1) 0).length ≤ _
  rw [h.len] at this ⊢
  omega
 have hT:=Hi (litF_ok ct (lx.tks l 0).length (newS l d) hok hlen (Nat.le_add_right _ _))
 have hg:=Hi (litF_goes ct (lx.tks l 0).length (newS l d) hok).1
 unfold readL
 obtain ⟨U,hU⟩:∃ U,U = litF ct (lx.tks l 0).length (newS l d):=⟨_,rfl⟩
 unfold LitAt at hT
 rw [← hU] at hT hg ⊢
 obtain ⟨c0,hc0⟩:∃ c0,c0 = newS l d:=⟨_,rfl⟩
 rw [← hc0] at hN hT hg
 clear h hU hok hlen hc0
 obtain ⟨r,C⟩:=U
 go_enter Tryz.func6,Tryz.ntmps6
 go_wp2_with fail
 have bW0:Below w.heap.size w ((w.alloc (.cells #[Value.int .i64 0,.string { data:=#[] },.bool false,.slice none 0 0,.slice none 0 0,.int .i64 0,.int .i64 0] 33)).alloc (.cells #[Value.int .i64 0,.slice none 0 0,.slice none 0 0] 38)):=(ba).alloc (by simp) _
 have hR1:((w.alloc (.cells #[Value.int .i64 0,.string { data:=#[] },.bool false,.slice none 0 0,.slice none 0 0,.int .i64 0,.int .i64 0] 33)).alloc (.cells #[Value.int .i64 0,.slice none 0 0,.slice none 0 0] 38)).heap[w.heap.size]? = some (.cells #[Value.int .i64 0,.string { data:=#[] },.bool false,.slice none 0 0,.slice none 0 0,.int .i64 0,.int .i64 0] 33 (0,0)):=(Below.heap_alloc _ _ w.heap.size (by simp)).trans (heap_alloc_new w _)
 have hR2:((w.alloc (.cells #[Value.int .i64 0,.string { data:=#[] },.bool false,.slice none 0 0,.slice none 0 0,.int .i64 0,.int .i64 0] 33)).alloc (.cells #[Value.int .i64 0,.slice none 0 0,.slice none 0 0] 38)).heap[w.heap.size + 1]? = some (.cells #[Value.int .i64 0,.slice none 0 0,.slice none 0 0] 38 (0,0)):=by
  have:=heap_alloc_new (w.alloc (.cells #[Value.int .i64 0,.string { data:=#[] },.bool false,.slice none 0 0,.slice none 0 0,.int .i64 0,.int .i64 0] 33)) (.cells #[Value.int .i64 0,.slice none 0 0,.slice none 0 0] 38)
  simpa using this
 have hz0:w.heap.size + 1 < ((w.alloc (.cells #[Value.int .i64 0,.string { data:=#[] },.bool false,.slice none 0 0,.slice none 0 0,.int .i64 0,.int .i64 0] 33)).alloc (.cells #[Value.int .i64 0,.slice none 0 0,.slice none 0 0] 38)).heap.size:=by simp
 obtain ⟨W0,hW0⟩:∃ W0,W0 = (w.alloc (.cells #[Value.int .i64 0,.string { data:=#[] },.bool false,.slice none 0 0,.slice none 0 0,.int .i64 0,.int .i64 0] 33)).alloc (.cells #[Value.int .i64 0,.slice none 0 0,.slice none 0 0] 38):=⟨_,rfl⟩
 rw [← hW0] at bW0 hR1 hR2 hz0 ⊢
 clear hW0
 refine ((uh hN) W0 bW0).mono ?_
 rintro e w1 ⟨B,p,rfl,hB,hp0,hc1,b1⟩
 have hTB:=Hi ((uh hT) B p)
 have hend:=Hi (fun W (hc:CurAt W B p C) => end_ok B p C W hc)
 have htold:=Hi (fun W (D:Cu) (hc:CurAt W B p D) => told_ok B p D W hc)
 clear hN hT
 unfold ptr at hTB hend htold ⊢
 go_wp2_with fail
 refine ((uh hTB) w1 hc1).mono ?_
 rintro e w2 ⟨cs,F,rfl,hpo,hc2,hk2⟩
 obtain ⟨kk,tt,bl,ai,ni,ci,af,nf,cf,ln,co,rfl⟩:=hpo.shape
 have HP:=Hi hpo
 have hrF:∀ b ∈ F,W0.heap.size ≤ b ∧ b < w2.heap.size:=fun b hb => ⟨Nat.le_trans b1.size (hpo.rng b hb).1,(hpo.rng b hb).2⟩
 clear hpo
 have hB1:=hc1.lt
 have b02:Below W0.heap.size W0 w2:=b1.trans (hk2.below hB b1.size)
 have HC2:=Hi hc2
 clear hTB hc1 hc2 hk2 b1
 have bA2:=Hi (fun o => show Below w2.heap.size w2 (w2.alloc o) from ba)
 cases r with
 | none =>
  go_wp2_with fail
  have bT:=b02.alloc b02.size (.cells #[.int .i64 kk,.string tt,.bool bl,.slice ai ni ci,.slice af nf cf,.int .i64 ln,.int .i64 co] 33)
  refine ((uh htold) _ C ((uh HC2).below ((uh bA2) _))).mono ?_
  rintro e w5 ⟨fs,rfl,hflt,b5⟩
  have b05:Below W0.heap.size W0 w5:=bT.trans (b5.mono bT.size)
  have hne12:w.heap.size ≠ w.heap.size + 1:=by omega
  have HT1:=Hi (show w5.there w.heap.size 0 7 from dt.there_cells ((b05.block w.heap.size (by omega)).trans hR1) (by decide))
  have HT2:=Hi (show w5.there (w.heap.size + 1) 0 fs.length from by rw [hflt.three.1];exact dt.there_cells ((b05.block (w.heap.size + 1) hz0).trans hR2) (by decide))
  have HX0:=res2 hne12 [.int .i64 0,.string ⟨#[]⟩,.bool false,.slice none 0 0,.slice none 0 0,.int .i64 0,.int .i64 0] fs (uh HT1) (uh HT2)
  obtain ⟨W6,e6⟩:∃ W6,W6 = w5.setCells w.heap.size 0 (#[.int .i64 0,.string ⟨#[]⟩,.bool false,.slice none 0 0,.slice none 0 0,.int .i64 0,.int .i64 0]:Array Value).toList:=⟨_,rfl⟩
  have HX:=Hi (show W6.there (w.heap.size + 1) 0 _ ∧ (W6.setCells (w.heap.size + 1) 0 fs).rangeAt w.heap.size 0 [.int .i64 0,.string ⟨#[]⟩,.bool false,.slice none 0 0,.slice none 0 0,.int .i64 0,.int .i64 0] ∧ (W6.setCells (w.heap.size + 1) 0 fs).rangeAt (w.heap.size + 1) 0 fs from by rw [e6];exact HX0)
  have E6:=Hi e6
  clear HX0 e6
  have HI:=Hi (show (Tryz.prog.info? 38).map (·.size) = some fs.length from by rw [hflt.three.1];exact infoFl)
  have HO:=Hi (dt.one_cells hflt.three.2)
  have HF:=Hi hflt
  have hbw:=Hi (bW0.trans (b05.mono bW0.size))
  have hlo:=Hi (show w.heap.size + 1 < _ ∧ w.heap.size < _ from And.intro (Nat.lt_of_lt_of_le hz0 bT.size) (Nat.lt_of_lt_of_le (Nat.lt_of_succ_lt hz0) bT.size))
  clear b05 b5 htold hflt
  go_wp2_with (first
   | (refine wpList_store_mid (by rfl) 33 _ _ (by rfl) w.heap.size 0 #[.int .i64 0,.string ⟨#[]⟩,.bool false,.slice none 0 0,.slice none 0 0,.int .i64 0,.int .i64 0] (by rfl) (by rfl) (uh HT1) infoLt (dt.one_cells (cs:=[.int .i64 0,.string ⟨#[]⟩,.bool false,.slice none 0 0,.slice none 0 0,.int .i64 0,.int .i64 0]) (by rfl)) ?_;rw [← uh E6])
   | refine wpList_store_mid (by rfl) 38 _ _ (by rfl) (w.heap.size + 1) 0 fs.toArray (by rfl) (by rfl) (by have:=(uh HX).1;simpa using this) (by have:=uh HI;simpa using this) (uh HO) ?_)
  refine bodyPost_ret (result_rows2 rfl _ _ w.heap.size 0 [.int .i64 0,.string ⟨#[]⟩,.bool false,.slice none 0 0,.slice none 0 0,.int .i64 0,.int .i64 0] _ rfl (uh HX).2.1 Tryz.underlying33 rfl infoLt (w.heap.size + 1) 0 fs _ rfl (uh HX).2.2 Tryz.underlying38 rfl (uh HI)) rfl ?_
  have e6:=uh E6
  subst e6
  refine ⟨_,[],_,rfl,⟨leaf_shape 0 em false 0 0,leaf_ow _ 0 em false 0 0,List.nodup_nil,by simp⟩,?_,dt.below_setCells _ _ _ _ (dt.below_setCells _ _ _ _ (uh hbw) (Nat.le_refl _)) (Nat.le_add_right _ 1)⟩
  exact (((uh HF).out (uh hlo).2 _ _).out (uh hlo).1 _ _).mono (Nat.le_of_lt (uh hlo).2)
 | some it =>
  cases hF:C.finB
  ·rw [hF] at hend
   go_wp2_with fail
   refine ((uh hend) _ ((uh HC2).below ((uh bA2) _))).mono ?_
   rintro e w3 ⟨rfl,hc3,hk3⟩
   have bT:Below W0.heap.size W0 w3:=(b02.alloc b02.size _).trans (hk3.below hB (Nat.le_trans b02.size ((uh bA2) _).size))
   go_wp2_with fail
   refine ((uh htold) _ C.fin hc3).mono ?_
   rintro e w5 ⟨fs,rfl,hflt,b5⟩
   have b05:Below W0.heap.size W0 w5:=bT.trans (b5.mono bT.size)
   have hne12:w.heap.size ≠ w.heap.size + 1:=by omega
   have HT1:=Hi (show w5.there w.heap.size 0 7 from dt.there_cells ((b05.block w.heap.size (by omega)).trans hR1) (by decide))
   have HT2:=Hi (show w5.there (w.heap.size + 1) 0 fs.length from by rw [hflt.three.1];exact dt.there_cells ((b05.block (w.heap.size + 1) hz0).trans hR2) (by decide))
   have HX0:=res2 hne12 [.int .i64 0,.string ⟨#[]⟩,.bool false,.slice none 0 0,.slice none 0 0,.int .i64 0,.int .i64 0] fs (uh HT1) (uh HT2)
   obtain ⟨W6,e6⟩:∃ W6,W6 = w5.setCells w.heap.size 0 (#[.int .i64 0,.string ⟨#[]⟩,.bool false,.slice none 0 0,.slice none 0 0,.int .i64 0,.int .i64 0]:Array Value).toList:=⟨_,rfl⟩
   have HX:=Hi (show W6.there (w.heap.size + 1) 0 _ ∧ (W6.setCells (w.heap.size + 1) 0 fs).rangeAt w.heap.size 0 [.int .i64 0,.string ⟨#[]⟩,.bool false,.slice none 0 0,.slice none 0 0,.int .i64 0,.int .i64 0] ∧ (W6.setCells (w.heap.size + 1) 0 fs).rangeAt (w.heap.size + 1) 0 fs from by rw [e6];exact HX0)
   have E6:=Hi e6
   clear HX0 e6
   have HI:=Hi (show (Tryz.prog.info? 38).map (·.size) = some fs.length from by rw [hflt.three.1];exact infoFl)
   have HO:=Hi (dt.one_cells hflt.three.2)
   have HF:=Hi hflt
   have hbw:=Hi (bW0.trans (b05.mono bW0.size))
   have hlo:=Hi (show w.heap.size + 1 < _ ∧ w.heap.size < _ from And.intro (Nat.lt_of_lt_of_le hz0 bT.size) (Nat.lt_of_lt_of_le (Nat.lt_of_succ_lt hz0) bT.size))
   clear b05 b5 htold hflt
   go_wp2_with (first
    | (refine wpList_store_mid (by rfl) 33 _ _ (by rfl) w.heap.size 0 #[.int .i64 0,.string ⟨#[]⟩,.bool false,.slice none 0 0,.slice none 0 0,.int .i64 0,.int .i64 0] (by rfl) (by rfl) (uh HT1) infoLt (dt.one_cells (cs:=[.int .i64 0,.string ⟨#[]⟩,.bool false,.slice none 0 0,.slice none 0 0,.int .i64 0,.int .i64 0]) (by rfl)) ?_;rw [← uh E6])
    | refine wpList_store_mid (by rfl) 38 _ _ (by rfl) (w.heap.size + 1) 0 fs.toArray (by rfl) (by rfl) (by have:=(uh HX).1;simpa using this) (by have:=uh HI;simpa using this) (uh HO) ?_)
   refine bodyPost_ret (result_rows2 rfl _ _ w.heap.size 0 [.int .i64 0,.string ⟨#[]⟩,.bool false,.slice none 0 0,.slice none 0 0,.int .i64 0,.int .i64 0] _ rfl (uh HX).2.1 Tryz.underlying33 rfl infoLt (w.heap.size + 1) 0 fs _ rfl (uh HX).2.2 Tryz.underlying38 rfl (uh HI)) rfl ?_
   have e6:=uh E6
   subst e6
   refine ⟨_,[],_,rfl,⟨leaf_shape 0 em false 0 0,leaf_ow _ 0 em false 0 0,List.nodup_nil,by simp⟩,?_,dt.below_setCells _ _ _ _ (dt.below_setCells _ _ _ _ (uh hbw) (Nat.le_refl _)) (Nat.le_add_right _ 1)⟩
   exact (((uh HF).out (uh hlo).2 _ _).out (uh hlo).1 _ _).mono (Nat.le_of_lt (uh hlo).2)
  ·rw [hF] at hend
   go_wp2_with fail
   refine ((uh hend) _ ((uh HC2).below ((uh bA2) _))).mono ?_
   rintro e w3 ⟨rfl,hc3,hk3⟩
   have hI3:=(hk3.block w2.heap.size (by simp) (by have:=(uh HC2).lt;omega)).trans (heap_alloc_new w2 _)
   have b03:Below W0.heap.size W0 w3:=(b02.alloc b02.size _).trans (hk3.below hB (Nat.le_trans b02.size ((uh bA2) _).size))
   have i0:w3.cell? ⟨w2.heap.size,0,none⟩ = some (.int .i64 kk):=(dt.cell_cells hI3 0).trans rfl
   have i1:w3.cell? ⟨w2.heap.size,1,none⟩ = some (.string tt):=(dt.cell_cells hI3 1).trans rfl
   have i2:w3.cell? ⟨w2.heap.size,2,none⟩ = some (.bool bl):=(dt.cell_cells hI3 2).trans rfl
   have i3:w3.cell? ⟨w2.heap.size,3,none⟩ = some (.slice ai ni ci):=(dt.cell_cells hI3 3).trans rfl
   have i4:w3.cell? ⟨w2.heap.size,4,none⟩ = some (.slice af nf cf):=(dt.cell_cells hI3 4).trans rfl
   have i5:w3.cell? ⟨w2.heap.size,5,none⟩ = some (.int .i64 ln):=(dt.cell_cells hI3 5).trans rfl
   have i6:w3.cell? ⟨w2.heap.size,6,none⟩ = some (.int .i64 co):=(dt.cell_cells hI3 6).trans rfl
   have HW3:=Hi (show Ow w3 (it) [.int .i64 kk,.string tt,.bool bl,.slice ai ni ci,.slice af nf cf,.int .i64 ln,.int .i64 co] F from ow_kp (ow_below (uh HP).own ((uh bA2) _) (fun b hb => (hrF b hb).2)) hk3 (Nat.lt_of_lt_of_le (Nat.lt_succ_self B) (Nat.le_refl _)) (fun b hb => ⟨by have h1:=(uh HP).rng b hb;have h2:=hB1;omega,by have:=(hrF b hb).2;simp;omega⟩))
   have hz23:=Hi (show w2.heap.size ≤ w3.heap.size from by have:=hk3.size;simp at this;omega)
   have hne12:w.heap.size ≠ w.heap.size + 1:=by omega
   have HT1:=Hi (show w3.there w.heap.size 0 7 from dt.there_cells ((b03.block w.heap.size (by omega)).trans hR1) (by decide))
   have HT2:=Hi (show w3.there (w.heap.size + 1) 0 3 from dt.there_cells ((b03.block (w.heap.size + 1) hz0).trans hR2) (by decide))
   have HX0:=res2 hne12 [.int .i64 kk,.string tt,.bool bl,.slice ai ni ci,.slice af nf cf,.int .i64 ln,.int .i64 co] [.int .i64 0,.slice none 0 0,.slice none 0 0] (uh HT1) (uh HT2)
   obtain ⟨W6,e6⟩:∃ W6,W6 = w3.setCells w.heap.size 0 (#[.int .i64 kk,.string tt,.bool bl,.slice ai ni ci,.slice af nf cf,.int .i64 ln,.int .i64 co]:Array Value).toList:=⟨_,rfl⟩
   have HX:=Hi (show W6.there (w.heap.size + 1) 0 _ ∧ (W6.setCells (w.heap.size + 1) 0 [.int .i64 0,.slice none 0 0,.slice none 0 0]).rangeAt w.heap.size 0 [.int .i64 kk,.string tt,.bool bl,.slice ai ni ci,.slice af nf cf,.int .i64 ln,.int .i64 co] ∧ (W6.setCells (w.heap.size + 1) 0 [.int .i64 0,.slice none 0 0,.slice none 0 0]).rangeAt (w.heap.size + 1) 0 [.int .i64 0,.slice none 0 0,.slice none 0 0] from by rw [e6];exact HX0)
   have E6:=Hi e6
   clear HX0 e6
   have hfin:=Hi (show C.fin = C ∧ C.kd = 0 from ⟨by unfold Cu.fin;rw [hF];rfl,(of_decide_eq_true hF).1⟩)
   have hbw:=Hi (bW0.trans (b03.mono bW0.size))
   clear hI3 b03 hk3 hc3 hend htold b02 bA2
   go_wp2_with (first
    | (refine wpList_store_mid (by rfl) 33 _ _ (by rfl) w.heap.size 0 #[.int .i64 kk,.string tt,.bool bl,.slice ai ni ci,.slice af nf cf,.int .i64 ln,.int .i64 co] (by rfl) (by rfl) (uh HT1) infoLt (dt.one_cells (cs:=[.int .i64 kk,.string tt,.bool bl,.slice ai ni ci,.slice af nf cf,.int .i64 ln,.int .i64 co]) (by rfl)) ?_;rw [← uh E6])
    | refine wpList_store_mid (by rfl) 38 _ _ (by rfl) (w.heap.size + 1) 0 #[.int .i64 0,.slice none 0 0,.slice none 0 0] (by rfl) (by rfl) (uh HX).1 infoFl (dt.one_cells (cs:=[.int .i64 0,.slice none 0 0,.slice none 0 0]) (by rfl)) ?_)
   refine bodyPost_ret (result_rows2 rfl _ _ w.heap.size 0 [.int .i64 kk,.string tt,.bool bl,.slice ai ni ci,.slice af nf cf,.int .i64 ln,.int .i64 co] _ rfl (uh HX).2.1 Tryz.underlying33 rfl infoLt (w.heap.size + 1) 0 [.int .i64 0,.slice none 0 0,.slice none 0 0] _ rfl (uh HX).2.2 Tryz.underlying38 rfl infoFl) rfl ?_
   have e6:=uh E6
   subst e6
   refine ⟨_,F,_,rfl,⟨⟨kk,tt,bl,ai,ni,ci,af,nf,cf,ln,co,rfl⟩,ow_out (ow_out (uh HW3) (fun hm => by have:=(hrF _ hm).1;omega) _ _) (fun hm => by have:=(hrF _ hm).1;omega) _ _,(uh HP).nodup,fun b hb => ⟨by have:=(hrF b hb).1;have:=bW0.size;omega,by rw [dt.size_setCells,dt.size_setCells];have:=(hrF b hb).2;have:=uh hz23;omega⟩⟩,?_,dt.below_setCells _ _ _ _ (dt.below_setCells _ _ _ _ (uh hbw) (Nat.le_refl _)) (Nat.le_add_right _ 1)⟩
   unfold FltAt
   show (if C.fin.kd = 0 then _ else _)
   rw [(uh hfin).1,if_pos (uh hfin).2]
end Go.Proofs.YtepmbmbnlmbhhaaGreat.cu
