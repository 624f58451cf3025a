import Derived.Test.YtjlaoeigfokkiaaGreatDoorBr32
import Derived.Test.YtjlaoeigfokkiaaGreatDoorBr22
import Derived.Test.YtjlaoeigfokkiaaGreatDoorBr3
import Derived.Deep.Strs
import Derived.OneCell
namespace Go.Proofs.YtjlaoeigfokkiaaGreatDoor.fto
open Go.ChangeShapes Go.WideShapes Go.ChangeAt Go.RowKit
open mem Go.Sort
open ints (hide unhide)
set_option linter.unusedVariables false
set_option linter.unusedSimpArgs false
theorem mixedL:Tryz.prog.follows .mixedOrders = true:=by kernel_rfl
theorem infoRNum:(Tryz.prog.info? 33).map (·.size) = some 3:=by kernel_rfl
theorem form_z {s:ByteArray} (h:numP (bytZ s) = false):formZ (aut (bytZ s)) = 0:=by
 unfold numP at h
 simpa using of_decide_eq_false h
set_option maxHeartbeats 1000000 in
set_option maxRecDepth 100000 in
theorem rnum_none (s:ByteArray) (w:World) (hs:s.size ≤ 1050000) (hn:numP (bytZ s) = false) :
  Calls Tryz.prog 9 #[.string s] w fun e w' => e = .returned (.tuple #[.agg #[.int .i64 0,.int .i64 0,.int .u64 0],.int .i64 20]) ∧ Below w.heap.size w w':=by
 have HF:=hide (fun W => Form_ok s W (by omega))
 rw [form_z hn] at HF
 obtain ⟨U,hU⟩:∃ U,U = w.alloc (.cells #[.int .i64 0,.int .i64 0,.int .u64 0] 33):=⟨_,rfl⟩
 have hb0:U.heap[w.heap.size]? = some (.cells #[.int .i64 0,.int .i64 0,.int .u64 0] 33 (0,0)):=by rw [hU];exact heap_alloc_new w _
 have bU:Below w.heap.size w U:=by rw [hU];exact (Below.refl _ _).alloc (Nat.le_refl _) _
 have zU:w.heap.size < U.heap.size:=by rw [hU];simp
 have HX:=hide (And.intro hb0 (And.intro bU zU))
 have HU:=hide hU
 clear hb0 bU zU hU hn
 go_enter Tryz.func9,Tryz.ntmps9
 go_wp2_with fail
 rw [← unhide HU]
 refine (unhide HF U).mono ?_
 rintro e w1 ⟨rfl,b1⟩
 obtain ⟨x1,x2,x3⟩:=unhide HX
 have hb1:w1.heap[w.heap.size]? = some (.cells #[.int .i64 0,.int .i64 0,.int .u64 0] 33 (0,0)):=(b1.block w.heap.size x3).trans x1
 have hth:=hide (thr_cells hb1 (o:=0) (n:=3) (by decide))
 have HB:=hide (x2.trans (b1.mono x2.size))
 clear b1 x1 x2 x3 hb1 HX HF HU
 go_wp2_with (first
  | refine wpList_store_mid (by rfl) 33 _ _ (by rfl) w.heap.size 0 #[.int .i64 0,.int .i64 0,.int .u64 0] (by rfl) (by rfl) (unhide hth) infoRNum (one_c (cs:=[.int .i64 0,.int .i64 0,.int .u64 0]) (by rfl)) ?_)
 refine bodyPost_ret (rgn.result_row_tmp rfl _ _ w.heap.size 0 [.int .i64 0,.int .i64 0,.int .u64 0] _ rfl (World.rangeAt_setCells_same _ _ _ _ (unhide hth)) Tryz.underlying33 rfl infoRNum) rfl ?_
 exact ⟨rfl,bel_setCells _ _ _ _ (unhide HB) (Nat.le_refl _)⟩
set_option maxHeartbeats 1000000 in
set_option maxRecDepth 100000 in
theorem rnum_w (s:ByteArray) (ng:Bool) (A:List Int) (w:World) (hs:s.size ≤ 1050000) (h:NumT (bytZ s) ng A [] none) (hin:inI ng (dv A) = true) :
  Calls Tryz.prog 9 #[.string s] w fun e w' => e = .returned (.tuple #[.agg #[.int .i64 2,.int .i64 (svI ng (dv A)),.int .u64 0],.int .i64 0]) ∧ Below w.heap.size w w':=by
 have HF:=hide (fun W => Form_ok s W (by omega))
 have hf:=h.num
 rw [if_pos ⟨rfl,rfl⟩] at hf
 rw [hf] at HF
 have HS:=hide (fun W => small_ok s ng A W (by omega) h)
 rw [hin] at HS
 obtain ⟨V,hV⟩:∃ V,V = svI ng (dv A):=⟨_,rfl⟩
 rw [← hV] at HS ⊢
 obtain ⟨U,hU⟩:∃ U,U = w.alloc (.cells #[.int .i64 0,.int .i64 0,.int .u64 0] 33):=⟨_,rfl⟩
 have hb0:U.heap[w.heap.size]? = some (.cells #[.int .i64 0,.int .i64 0,.int .u64 0] 33 (0,0)):=by rw [hU];exact heap_alloc_new w _
 have bU:Below w.heap.size w U:=by rw [hU];exact (Below.refl _ _).alloc (Nat.le_refl _) _
 have zU:w.heap.size < U.heap.size:=by rw [hU];simp
 have HX:=hide (And.intro hb0 (And.intro bU zU))
 have HU:=hide hU
 clear hb0 bU zU hU hf hin hV
 go_enter Tryz.func9,Tryz.ntmps9
 go_wp2_with fail
 rw [← unhide HU]
 refine (unhide HF U).mono ?_
 rintro e w1 ⟨rfl,b1⟩
 obtain ⟨x1,x2,x3⟩:=unhide HX
 have hb1:w1.heap[w.heap.size]? = some (.cells #[.int .i64 0,.int .i64 0,.int .u64 0] 33 (0,0)):=(b1.block w.heap.size x3).trans x1
 have z1:w.heap.size < w1.heap.size:=Nat.lt_of_lt_of_le x3 b1.size
 have HY:=hide (And.intro hb1 (And.intro (x2.trans (b1.mono x2.size)) z1))
 clear b1 x1 x2 x3 hb1 z1 HX HF HU
 go_wp2_with fail
 refine (unhide HS w1).mono ?_
 rintro e w2 ⟨n,rfl,hn,b2⟩
 obtain rfl:n = V:=hn (by trivial)
 obtain ⟨x1,x2,x3⟩:=unhide HY
 have hb2:w2.heap[w.heap.size]? = some (.cells #[.int .i64 0,.int .i64 0,.int .u64 0] 33 (0,0)):=(b2.block w.heap.size x3).trans x1
 have hth:=hide (thr_cells hb2 (o:=0) (n:=3) (by decide))
 have HB:=hide (x2.trans (b2.mono x2.size))
 clear b2 x1 x2 x3 hb2 HY HS hn
 go_wp2_with (first
  | refine wpList_store_mid (by rfl) 33 _ _ (by rfl) w.heap.size 0 #[.int .i64 2,.int .i64 n,.int .u64 0] (by rfl) (by rfl) (unhide hth) infoRNum (one_c (cs:=[.int .i64 2,.int .i64 n,.int .u64 0]) (by rfl)) ?_)
 refine bodyPost_ret (rgn.result_row_tmp rfl _ _ w.heap.size 0 [.int .i64 2,.int .i64 n,.int .u64 0] _ rfl (World.rangeAt_setCells_same _ _ _ _ (unhide hth)) Tryz.underlying33 rfl infoRNum) rfl ?_
 exact ⟨rfl,bel_setCells _ _ _ _ (unhide HB) (Nat.le_refl _)⟩
set_option maxHeartbeats 1000000 in
set_option maxRecDepth 100000 in
theorem rnum_fa (s:ByteArray) (B:Nat) (w:World) (hs:s.size ≤ 1050000) (hf:formZ (aut (bytZ s)) = 1)
  (SM:∀ W,Calls Tryz.prog 23 #[.string s] W fun e w' => ∃ n,e = .returned (.tuple #[.int .i64 n,.bool false]) ∧ Below W.heap.size W w')
  (RB:∀ W,Calls Tryz.prog 24 #[.string s] W fun e w' => ∃ Z:Nat,e = .returned (.tuple #[.int .u64 (Z:Nat),.bool true]) ∧ Z = B ∧ Below W.heap.size W w') :
  Calls Tryz.prog 9 #[.string s] w fun e w' => e = .returned (.tuple #[.agg #[.int .i64 3,.int .i64 0,.int .u64 (B:Nat)],.int .i64 0]) ∧ Below w.heap.size w w':=by
 have HF:=hide (fun W => Form_ok s W (by omega))
 rw [hf] at HF
 have HS:=hide SM
 clear SM
 have HR:=hide RB
 obtain ⟨U,hU⟩:∃ U,U = w.alloc (.cells #[.int .i64 0,.int .i64 0,.int .u64 0] 33):=⟨_,rfl⟩
 have hb0:U.heap[w.heap.size]? = some (.cells #[.int .i64 0,.int .i64 0,.int .u64 0] 33 (0,0)):=by rw [hU];exact heap_alloc_new w _
 have bU:Below w.heap.size w U:=by rw [hU];exact (Below.refl _ _).alloc (Nat.le_refl _) _
 have zU:w.heap.size < U.heap.size:=by rw [hU];simp
 have HX:=hide (And.intro hb0 (And.intro bU zU))
 have HU:=hide hU
 clear hb0 bU zU hU hf RB
 go_enter Tryz.func9,Tryz.ntmps9
 go_wp2_with fail
 rw [← unhide HU]
 refine (unhide HF U).mono ?_
 rintro e w1 ⟨rfl,b1⟩
 obtain ⟨x1,x2,x3⟩:=unhide HX
 have hb1:w1.heap[w.heap.size]? = some (.cells #[.int .i64 0,.int .i64 0,.int .u64 0] 33 (0,0)):=(b1.block w.heap.size x3).trans x1
 have z1:w.heap.size < w1.heap.size:=Nat.lt_of_lt_of_le x3 b1.size
 have HY:=hide (And.intro hb1 (And.intro (x2.trans (b1.mono x2.size)) z1))
 clear b1 x1 x2 x3 hb1 z1 HX HF HU
 go_wp2_with fail
 refine (unhide HS w1).mono ?_
 rintro e w1' ⟨n,rfl,b2⟩
 obtain ⟨x1,x2,x3⟩:=unhide HY
 have hb2:w1'.heap[w.heap.size]? = some (.cells #[.int .i64 0,.int .i64 0,.int .u64 0] 33 (0,0)):=(b2.block w.heap.size x3).trans x1
 have z2:w.heap.size < w1'.heap.size:=Nat.lt_of_lt_of_le x3 b2.size
 have HY2:=hide (And.intro hb2 (And.intro (x2.trans (b2.mono x2.size)) z2))
 clear b2 x1 x2 x3 hb2 z2 HY HS
 go_wp2_with fail
 refine (unhide HR w1').mono ?_
 rintro e w2 ⟨Z,rfl,hZB,b2⟩
 subst hZB
 obtain ⟨x1,x2,x3⟩:=unhide HY2
 have hb2:w2.heap[w.heap.size]? = some (.cells #[.int .i64 0,.int .i64 0,.int .u64 0] 33 (0,0)):=(b2.block w.heap.size x3).trans x1
 have hth:=hide (thr_cells hb2 (o:=0) (n:=3) (by decide))
 have HB:=hide (x2.trans (b2.mono x2.size))
 clear b2 x1 x2 x3 hb2 HY2 HR
 go_wp2_with (first
  | refine wpList_store_mid (by rfl) 33 _ _ (by rfl) w.heap.size 0 #[.int .i64 3,.int .i64 0,.int .u64 (Z:Nat)] (by rfl) (by rfl) (unhide hth) infoRNum (one_c (cs:=[.int .i64 3,.int .i64 0,.int .u64 (Z:Nat)]) (by rfl)) ?_)
 refine bodyPost_ret (rgn.result_row_tmp rfl _ _ w.heap.size 0 [.int .i64 3,.int .i64 0,.int .u64 (Z:Nat)] _ rfl (World.rangeAt_setCells_same _ _ _ _ (unhide hth)) Tryz.underlying33 rfl infoRNum) rfl ?_
 exact ⟨rfl,bel_setCells _ _ _ _ (unhide HB) (Nat.le_refl _)⟩
set_option maxHeartbeats 1000000 in
set_option maxRecDepth 100000 in
theorem rnum_ia (s:ByteArray) (B:Nat) (w:World) (hs:s.size ≤ 1050000) (hf:formZ (aut (bytZ s)) = 1)
  (SM:∀ W,Calls Tryz.prog 23 #[.string s] W fun e w' => ∃ n,e = .returned (.tuple #[.int .i64 n,.bool false]) ∧ Below W.heap.size W w')
  (RB:∀ W,Calls Tryz.prog 24 #[.string s] W fun e w' => ∃ Z:Nat,e = .returned (.tuple #[.int .u64 (Z:Nat),.bool false]) ∧ Below W.heap.size W w') :
  Calls Tryz.prog 9 #[.string s] w fun e w' => e = .returned (.tuple #[.agg #[.int .i64 0,.int .i64 0,.int .u64 0],.int .i64 7]) ∧ Below w.heap.size w w':=by
 have HF:=hide (fun W => Form_ok s W (by omega))
 rw [hf] at HF
 have HS:=hide SM
 clear SM
 have HR:=hide RB
 obtain ⟨U,hU⟩:∃ U,U = w.alloc (.cells #[.int .i64 0,.int .i64 0,.int .u64 0] 33):=⟨_,rfl⟩
 have hb0:U.heap[w.heap.size]? = some (.cells #[.int .i64 0,.int .i64 0,.int .u64 0] 33 (0,0)):=by rw [hU];exact heap_alloc_new w _
 have bU:Below w.heap.size w U:=by rw [hU];exact (Below.refl _ _).alloc (Nat.le_refl _) _
 have zU:w.heap.size < U.heap.size:=by rw [hU];simp
 have HX:=hide (And.intro hb0 (And.intro bU zU))
 have HU:=hide hU
 clear hb0 bU zU hU hf RB
 go_enter Tryz.func9,Tryz.ntmps9
 go_wp2_with fail
 rw [← unhide HU]
 refine (unhide HF U).mono ?_
 rintro e w1 ⟨rfl,b1⟩
 obtain ⟨x1,x2,x3⟩:=unhide HX
 have hb1:w1.heap[w.heap.size]? = some (.cells #[.int .i64 0,.int .i64 0,.int .u64 0] 33 (0,0)):=(b1.block w.heap.size x3).trans x1
 have z1:w.heap.size < w1.heap.size:=Nat.lt_of_lt_of_le x3 b1.size
 have HY:=hide (And.intro hb1 (And.intro (x2.trans (b1.mono x2.size)) z1))
 clear b1 x1 x2 x3 hb1 z1 HX HF HU
 go_wp2_with fail
 refine (unhide HS w1).mono ?_
 rintro e w1' ⟨n,rfl,b2⟩
 obtain ⟨x1,x2,x3⟩:=unhide HY
 have hb2:w1'.heap[w.heap.size]? = some (.cells #[.int .i64 0,.int .i64 0,.int .u64 0] 33 (0,0)):=(b2.block w.heap.size x3).trans x1
 have z2:w.heap.size < w1'.heap.size:=Nat.lt_of_lt_of_le x3 b2.size
 have HY2:=hide (And.intro hb2 (And.intro (x2.trans (b2.mono x2.size)) z2))
 clear b2 x1 x2 x3 hb2 z2 HY HS
 go_wp2_with fail
 refine (unhide HR w1').mono ?_
 rintro e w2 ⟨Z,rfl,b2⟩
 obtain ⟨x1,x2,x3⟩:=unhide HY2
 have hb2:w2.heap[w.heap.size]? = some (.cells #[.int .i64 0,.int .i64 0,.int .u64 0] 33 (0,0)):=(b2.block w.heap.size x3).trans x1
 have hth:=hide (thr_cells hb2 (o:=0) (n:=3) (by decide))
 have HB:=hide (x2.trans (b2.mono x2.size))
 clear b2 x1 x2 x3 hb2 HY2 HR
 go_wp2_with (first
  | refine wpList_store_mid (by rfl) 33 _ _ (by rfl) w.heap.size 0 #[.int .i64 0,.int .i64 0,.int .u64 0] (by rfl) (by rfl) (unhide hth) infoRNum (one_c (cs:=[.int .i64 0,.int .i64 0,.int .u64 0]) (by rfl)) ?_)
 refine bodyPost_ret (rgn.result_row_tmp rfl _ _ w.heap.size 0 [.int .i64 0,.int .i64 0,.int .u64 0] _ rfl (World.rangeAt_setCells_same _ _ _ _ (unhide hth)) Tryz.underlying33 rfl infoRNum) rfl ?_
 exact ⟨rfl,bel_setCells _ _ _ _ (unhide HB) (Nat.le_refl _)⟩
set_option maxHeartbeats 1000000 in
set_option maxRecDepth 100000 in
theorem rnum_fb (s:ByteArray) (B:Nat) (w:World) (hs:s.size ≤ 1050000) (hf:formZ (aut (bytZ s)) = 2)
  (RB:∀ W,Calls Tryz.prog 24 #[.string s] W fun e w' => ∃ Z:Nat,e = .returned (.tuple #[.int .u64 (Z:Nat),.bool true]) ∧ Z = B ∧ Below W.heap.size W w') :
  Calls Tryz.prog 9 #[.string s] w fun e w' => e = .returned (.tuple #[.agg #[.int .i64 3,.int .i64 0,.int .u64 (B:Nat)],.int .i64 0]) ∧ Below w.heap.size w w':=by
 have HF:=hide (fun W => Form_ok s W (by omega))
 rw [hf] at HF
 have HR:=hide RB
 obtain ⟨U,hU⟩:∃ U,U = w.alloc (.cells #[.int .i64 0,.int .i64 0,.int .u64 0] 33):=⟨_,rfl⟩
 have hb0:U.heap[w.heap.size]? = some (.cells #[.int .i64 0,.int .i64 0,.int .u64 0] 33 (0,0)):=by rw [hU];exact heap_alloc_new w _
 have bU:Below w.heap.size w U:=by rw [hU];exact (Below.refl _ _).alloc (Nat.le_refl _) _
 have zU:w.heap.size < U.heap.size:=by rw [hU];simp
 have HX:=hide (And.intro hb0 (And.intro bU zU))
 have HU:=hide hU
 clear hb0 bU zU hU hf RB
 go_enter Tryz.func9,Tryz.ntmps9
 go_wp2_with fail
 rw [← unhide HU]
 refine (unhide HF U).mono ?_
 rintro e w1 ⟨rfl,b1⟩
 obtain ⟨x1,x2,x3⟩:=unhide HX
 have hb1:w1.heap[w.heap.size]? = some (.cells #[.int .i64 0,.int .i64 0,.int .u64 0] 33 (0,0)):=(b1.block w.heap.size x3).trans x1
 have z1:w.heap.size < w1.heap.size:=Nat.lt_of_lt_of_le x3 b1.size
 have HY:=hide (And.intro hb1 (And.intro (x2.trans (b1.mono x2.size)) z1))
 clear b1 x1 x2 x3 hb1 z1 HX HF HU
 go_wp2_with fail
 refine (unhide HR w1).mono ?_
 rintro e w2 ⟨Z,rfl,hZB,b2⟩
 subst hZB
 obtain ⟨x1,x2,x3⟩:=unhide HY
 have hb2:w2.heap[w.heap.size]? = some (.cells #[.int .i64 0,.int .i64 0,.int .u64 0] 33 (0,0)):=(b2.block w.heap.size x3).trans x1
 have hth:=hide (thr_cells hb2 (o:=0) (n:=3) (by decide))
 have HB:=hide (x2.trans (b2.mono x2.size))
 clear b2 x1 x2 x3 hb2 HY HR
 go_wp2_with (first
  | refine wpList_store_mid (by rfl) 33 _ _ (by rfl) w.heap.size 0 #[.int .i64 3,.int .i64 0,.int .u64 (Z:Nat)] (by rfl) (by rfl) (unhide hth) infoRNum (one_c (cs:=[.int .i64 3,.int .i64 0,.int .u64 (Z:Nat)]) (by rfl)) ?_)
 refine bodyPost_ret (rgn.result_row_tmp rfl _ _ w.heap.size 0 [.int .i64 3,.int .i64 0,.int .u64 (Z:Nat)] _ rfl (World.rangeAt_setCells_same _ _ _ _ (unhide hth)) Tryz.underlying33 rfl infoRNum) rfl ?_
 exact ⟨rfl,bel_setCells _ _ _ _ (unhide HB) (Nat.le_refl _)⟩
set_option maxHeartbeats 1000000 in
set_option maxRecDepth 100000 in
theorem rnum_ib (s:ByteArray) (B:Nat) (w:World) (hs:s.size ≤ 1050000) (hf:formZ (aut (bytZ s)) = 2)
  (RB:∀ W,Calls Tryz.prog 24 #[.string s] W fun e w' => ∃ Z:Nat,e = .returned (.tuple #[.int .u64 (Z:Nat),.bool false]) ∧ Below W.heap.size W w') :
  Calls Tryz.prog 9 #[.string s] w fun e w' => e = .returned (.tuple #[.agg #[.int .i64 0,.int .i64 0,.int .u64 0],.int .i64 7]) ∧ Below w.heap.size w w':=by
 have HF:=hide (fun W => Form_ok s W (by omega))
 rw [hf] at HF
 have HR:=hide RB
 obtain ⟨U,hU⟩:∃ U,U = w.alloc (.cells #[.int .i64 0,.int .i64 0,.int .u64 0] 33):=⟨_,rfl⟩
 have hb0:U.heap[w.heap.size]? = some (.cells #[.int .i64 0,.int .i64 0,.int .u64 0] 33 (0,0)):=by rw [hU];exact heap_alloc_new w _
 have bU:Below w.heap.size w U:=by rw [hU];exact (Below.refl _ _).alloc (Nat.le_refl _) _
 have zU:w.heap.size < U.heap.size:=by rw [hU];simp
 have HX:=hide (And.intro hb0 (And.intro bU zU))
 have HU:=hide hU
 clear hb0 bU zU hU hf RB
 go_enter Tryz.func9,Tryz.ntmps9
 go_wp2_with fail
 rw [← unhide HU]
 refine (unhide HF U).mono ?_
 rintro e w1 ⟨rfl,b1⟩
 obtain ⟨x1,x2,x3⟩:=unhide HX
 have hb1:w1.heap[w.heap.size]? = some (.cells #[.int .i64 0,.int .i64 0,.int .u64 0] 33 (0,0)):=(b1.block w.heap.size x3).trans x1
 have z1:w.heap.size < w1.heap.size:=Nat.lt_of_lt_of_le x3 b1.size
 have HY:=hide (And.intro hb1 (And.intro (x2.trans (b1.mono x2.size)) z1))
 clear b1 x1 x2 x3 hb1 z1 HX HF HU
 go_wp2_with fail
 refine (unhide HR w1).mono ?_
 rintro e w2 ⟨Z,rfl,b2⟩
 obtain ⟨x1,x2,x3⟩:=unhide HY
 have hb2:w2.heap[w.heap.size]? = some (.cells #[.int .i64 0,.int .i64 0,.int .u64 0] 33 (0,0)):=(b2.block w.heap.size x3).trans x1
 have hth:=hide (thr_cells hb2 (o:=0) (n:=3) (by decide))
 have HB:=hide (x2.trans (b2.mono x2.size))
 clear b2 x1 x2 x3 hb2 HY HR
 go_wp2_with (first
  | refine wpList_store_mid (by rfl) 33 _ _ (by rfl) w.heap.size 0 #[.int .i64 0,.int .i64 0,.int .u64 0] (by rfl) (by rfl) (unhide hth) infoRNum (one_c (cs:=[.int .i64 0,.int .i64 0,.int .u64 0]) (by rfl)) ?_)
 refine bodyPost_ret (rgn.result_row_tmp rfl _ _ w.heap.size 0 [.int .i64 0,.int .i64 0,.int .u64 0] _ rfl (World.rangeAt_setCells_same _ _ _ _ (unhide hth)) Tryz.underlying33 rfl infoRNum) rfl ?_
 exact ⟨rfl,bel_setCells _ _ _ _ (unhide HB) (Nat.le_refl _)⟩
end Go.Proofs.YtjlaoeigfokkiaaGreatDoor.fto
