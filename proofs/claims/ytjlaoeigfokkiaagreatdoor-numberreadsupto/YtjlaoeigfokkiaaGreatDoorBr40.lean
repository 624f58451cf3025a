import Derived.Test.YtjlaoeigfokkiaaGreatDoorBr15
import Derived.Test.YtjlaoeigfokkiaaGreatDoorBr38
namespace Go.Proofs.YtjlaoeigfokkiaaGreatDoor.fto
open Go.ChangeShapes Go.WideShapes Go.ChangeAt Go.RowKit
open mem Go.Sort
open ints (hide unhide)
set_option linter.unusedVariables false
set_option linter.unusedSimpArgs false
set_option maxHeartbeats 1100000 in
set_option maxRecDepth 100000 in
theorem read_fin (s:ByteArray) (R:Nat) (w:World) (hF:dcm.Fz w) (hs:s.size ≤ 1100000) (hR:R < 18446744073709551616) (hb:badF R = false) (hp:pfx (bytZ s) 0 = (s.size,s.size,2))
  (NE:∀ W,dcm.Fz W → Calls Tryz.prog 20 #[.string s] W fun e w' => e = .returned (.float .f64 R) ∧ Below W.heap.size W w') :
  Calls Tryz.prog 8 #[.string s] w fun e w' => e = .returned (.tuple #[.agg #[.int .i64 3,.int .i64 0,.float .f64 R],.int .i64 0]) ∧ Below w.heap.size w w':=by
 have CB:=hide (conv_bytes s)
 have PR:=hide (fun a n c W (h:Row .u8 W a n c (bytZ s)) (hn:n ≤ 4611686018427387900) => prefix_in_b a n c (bytZ s) 0 W h hn (Nat.zero_le _))
 rw [hp] at PR
 have HN:=hide NE
 have HF:=hide hF
 have HI:=hide (fun W => isInf_ok R W hR (nan_bad hb))
 rw [hb] at HI
 obtain ⟨cap,W2,hcv,hrow,b2⟩:=conv_bytes s (w.alloc (.cells #[.int .i64 0,.int .i64 0,.float .f64 0] 27))
 have hz:(w.alloc (.cells #[.int .i64 0,.int .i64 0,.float .f64 0] 27)).heap.size = w.heap.size + 1:=by simp
 rw [hz] at hcv hrow b2
 have hb0:(w.alloc (.cells #[.int .i64 0,.int .i64 0,.float .f64 0] 27)).heap[w.heap.size]? = some (.cells #[.int .i64 0,.int .i64 0,.float .f64 0] 27 (0,0)):=heap_alloc_new w _
 have hb2:W2.heap[w.heap.size]? = some (.cells #[.int .i64 0,.int .i64 0,.float .f64 0] 27 (0,0)):=(b2.block w.heap.size (by omega)).trans hb0
 have bw2:Below w.heap.size w W2:=((Below.refl _ _).alloc (Nat.le_refl _) _).trans (b2.mono (by omega))
 have hz2:w.heap.size + 1 ≤ W2.heap.size:=by have:=b2.size;rw [hz] at this;exact this
 have P1:=hide (unhide PR _ _ _ W2 hrow (by omega))
 have HX:=hide (And.intro hb2 (And.intro bw2 hz2))
 have e0:((s.size:Int) != (s.size:Int)) = false:=by simp
 clear NE hF hb hR hp CB PR b2 hb0 hb2 bw2 hz2 hrow
 go_enter Tryz.func8,Tryz.ntmps8
 go_wp2_with fail
 refine (unhide P1).mono ?_
 rintro e w1 ⟨rfl,b1⟩
 obtain ⟨x1,x2,x3⟩:=unhide HX
 have bw1:=x2.trans (b1.mono x2.size)
 have hb1:w1.heap[w.heap.size]? = some (.cells #[.int .i64 0,.int .i64 0,.float .f64 0] 27 (0,0)):=(b1.block w.heap.size (by omega)).trans x1
 have hz1:w.heap.size < w1.heap.size:=by have:=b1.size;omega
 have N1:=hide (unhide HN w1 ((unhide HF).below bw1))
 have HY:=hide (And.intro hb1 (And.intro bw1 hz1))
 clear b1 x1 x2 x3 bw1 hb1 hz1 HX P1 HN hcv
 go_wp2_with fail
 refine (unhide N1).mono ?_
 rintro e w2 ⟨rfl,b2⟩
 obtain ⟨x1,x2,x3⟩:=unhide HY
 have bw2:=x2.trans (b2.mono x2.size)
 have hb2:w2.heap[w.heap.size]? = some (.cells #[.int .i64 0,.int .i64 0,.float .f64 0] 27 (0,0)):=(b2.block w.heap.size x3).trans x1
 have hth:=hide (thr_cells hb2 (o:=0) (n:=3) (by decide))
 have HB:=hide bw2
 clear b2 x1 x2 x3 bw2 hb2 HY N1
 go_wp2_with fail
 refine (unhide HI _).mono ?_
 rintro e w3 ⟨rfl,hw⟩
 subst w3
 clear HI
 go_wp2_with (first
  | refine wpList_store_mid (by rfl) 27 _ _ (by rfl) w.heap.size 0 #[.int .i64 3,.int .i64 0,.float .f64 R] (by rfl) (by rfl) (unhide hth) infoNum (one_c (cs:=[.int .i64 3,.int .i64 0,.float .f64 R]) (by rfl)) ?_)
 refine bodyPost_ret (rgn.result_row_tmp rfl _ _ w.heap.size 0 [.int .i64 3,.int .i64 0,.float .f64 R] _ rfl (World.rangeAt_setCells_same _ _ _ _ (unhide hth)) Tryz.underlying27 rfl infoNum) rfl ?_
 exact ⟨rfl,bel_setCells _ _ _ _ (unhide HB) (Nat.le_refl _)⟩
set_option maxHeartbeats 1100000 in
set_option maxRecDepth 100000 in
theorem read_inf (s:ByteArray) (R:Nat) (w:World) (hF:dcm.Fz w) (hs:s.size ≤ 1100000) (hR:R < 18446744073709551616) (hnn:nanB R = false) (hb:badF R = true) (hp:pfx (bytZ s) 0 = (s.size,s.size,2))
  (NE:∀ W,dcm.Fz W → Calls Tryz.prog 20 #[.string s] W fun e w' => e = .returned (.float .f64 R) ∧ Below W.heap.size W w') :
  Calls Tryz.prog 8 #[.string s] w fun e w' => e = .returned (.tuple #[.agg #[.int .i64 0,.int .i64 0,.float .f64 0],.int .i64 7]) ∧ Below w.heap.size w w':=by
 have CB:=hide (conv_bytes s)
 have PR:=hide (fun a n c W (h:Row .u8 W a n c (bytZ s)) (hn:n ≤ 4611686018427387900) => prefix_in_b a n c (bytZ s) 0 W h hn (Nat.zero_le _))
 rw [hp] at PR
 have HN:=hide NE
 have HF:=hide hF
 have HI:=hide (fun W => isInf_ok R W hR hnn)
 rw [hb] at HI
 obtain ⟨cap,W2,hcv,hrow,b2⟩:=conv_bytes s (w.alloc (.cells #[.int .i64 0,.int .i64 0,.float .f64 0] 27))
 have hz:(w.alloc (.cells #[.int .i64 0,.int .i64 0,.float .f64 0] 27)).heap.size = w.heap.size + 1:=by simp
 rw [hz] at hcv hrow b2
 have hb0:(w.alloc (.cells #[.int .i64 0,.int .i64 0,.float .f64 0] 27)).heap[w.heap.size]? = some (.cells #[.int .i64 0,.int .i64 0,.float .f64 0] 27 (0,0)):=heap_alloc_new w _
 have hb2:W2.heap[w.heap.size]? = some (.cells #[.int .i64 0,.int .i64 0,.float .f64 0] 27 (0,0)):=(b2.block w.heap.size (by omega)).trans hb0
 have bw2:Below w.heap.size w W2:=((Below.refl _ _).alloc (Nat.le_refl _) _).trans (b2.mono (by omega))
 have hz2:w.heap.size + 1 ≤ W2.heap.size:=by have:=b2.size;rw [hz] at this;exact this
 have P1:=hide (unhide PR _ _ _ W2 hrow (by omega))
 have HX:=hide (And.intro hb2 (And.intro bw2 hz2))
 have e0:((s.size:Int) != (s.size:Int)) = false:=by simp
 clear NE hF hb hnn hR hp CB PR b2 hb0 hb2 bw2 hz2 hrow
 go_enter Tryz.func8,Tryz.ntmps8
 go_wp2_with fail
 refine (unhide P1).mono ?_
 rintro e w1 ⟨rfl,b1⟩
 obtain ⟨x1,x2,x3⟩:=unhide HX
 have bw1:=x2.trans (b1.mono x2.size)
 have hb1:w1.heap[w.heap.size]? = some (.cells #[.int .i64 0,.int .i64 0,.float .f64 0] 27 (0,0)):=(b1.block w.heap.size (by omega)).trans x1
 have hz1:w.heap.size < w1.heap.size:=by have:=b1.size;omega
 have N1:=hide (unhide HN w1 ((unhide HF).below bw1))
 have HY:=hide (And.intro hb1 (And.intro bw1 hz1))
 clear b1 x1 x2 x3 bw1 hb1 hz1 HX P1 HN hcv
 go_wp2_with fail
 refine (unhide N1).mono ?_
 rintro e w2 ⟨rfl,b2⟩
 obtain ⟨x1,x2,x3⟩:=unhide HY
 have bw2:=x2.trans (b2.mono x2.size)
 have hb2:w2.heap[w.heap.size]? = some (.cells #[.int .i64 0,.int .i64 0,.float .f64 0] 27 (0,0)):=(b2.block w.heap.size x3).trans x1
 have hth:=hide (thr_cells hb2 (o:=0) (n:=3) (by decide))
 have HB:=hide bw2
 clear b2 x1 x2 x3 bw2 hb2 HY N1
 go_wp2_with fail
 refine (unhide HI _).mono ?_
 rintro e w3 ⟨rfl,hw⟩
 subst w3
 clear HI
 go_wp2_with (first
  | refine wpList_store_mid (by rfl) 27 _ _ (by rfl) w.heap.size 0 #[.int .i64 0,.int .i64 0,.float .f64 0] (by rfl) (by rfl) (unhide hth) infoNum (one_c (cs:=[.int .i64 0,.int .i64 0,.float .f64 0]) (by rfl)) ?_)
 refine bodyPost_ret (rgn.result_row_tmp rfl _ _ w.heap.size 0 [.int .i64 0,.int .i64 0,.float .f64 0] _ rfl (World.rangeAt_setCells_same _ _ _ _ (unhide hth)) Tryz.underlying27 rfl infoNum) rfl ?_
 exact ⟨rfl,bel_setCells _ _ _ _ (unhide HB) (Nat.le_refl _)⟩
end Go.Proofs.YtjlaoeigfokkiaaGreatDoor.fto
