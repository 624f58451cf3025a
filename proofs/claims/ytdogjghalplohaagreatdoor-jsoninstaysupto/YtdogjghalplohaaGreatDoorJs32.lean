import Derived.Test.YtdogjghalplohaaGreatDoorJs21
import Derived.Test.YtdogjghalplohaaGreatDoorJs31
import Derived.Test.YtdogjghalplohaaGreatDoorJs19
import Derived.Test.YtdogjghalplohaaGreatDoorJs12
import Derived.Deep.LoopGhost
import Derived.Laws.Cover2
import Derived.Laws.FloatArith
import Derived.Shelf.Strconv.ToErrorRange
import Derived.Lib.ParseIntB
import GoSem.Op.String
namespace Go.Proofs.YtdogjghalplohaaGreatDoor.fto
open Go.ChangeShapes Go.WideShapes Go.ChangeAt Go.RowKit
open mem Go.Sort
open ints (hide unhide)
set_option linter.unusedVariables false
set_option linter.unusedSimpArgs false
set_option maxHeartbeats 1100000 in
set_option maxRecDepth 100000 in
theorem read_fin (s:ByteArray) (R:Nat) (w:World) (hF:dcm.Fz w) (hs:s.size ≤ 1100000) (hR:R < 18446744073709551616) (hb:badF R = false) (hp:pfx (bytZ s) 0 = (s.size,s.size,2))
  (NE:∀ W,dcm.Fz W → Calls Tryz.prog 34 #[.string s] W fun e w' => e = .returned (.float .f64 R) ∧ Below W.heap.size W w') :
  Calls Tryz.prog 16 #[.string s] w fun e w' => e = .returned (.tuple #[.agg #[.int .i64 3,.int .i64 0,.float .f64 R],.int .i64 0]) ∧ Below w.heap.size w w':=by
 have CB:=hide (conv_bytes s)
 have PR:=hide (fun a n c W (h:Row .u8 W a n c (bytZ s)) (hn:n ≤ 4611686018427387900) => prefix_in_b a n c (bytZ s) 0 W h hn (Nat.zero_le _))
 rw [hp] at PR
 have HN:=hide NE
 have HF:=hide hF
 have HI:=hide (fun W => isInf_ok R W hR (nan_bad hb))
 rw [hb] at HI
 obtain ⟨cap,W2,hcv,hrow,b2⟩:=conv_bytes s (w.alloc (.cells #[.int .i64 0,.int .i64 0,.float .f64 0] 46))
 have hz:(w.alloc (.cells #[.int .i64 0,.int .i64 0,.float .f64 0] 46)).heap.size = w.heap.size + 1:=by simp
 rw [hz] at hcv hrow b2
 have hb0:(w.alloc (.cells #[.int .i64 0,.int .i64 0,.float .f64 0] 46)).heap[w.heap.size]? = some (.cells #[.int .i64 0,.int .i64 0,.float .f64 0] 46 (0,0)):=heap_alloc_new w _
 have hb2:W2.heap[w.heap.size]? = some (.cells #[.int .i64 0,.int .i64 0,.float .f64 0] 46 (0,0)):=(b2.block w.heap.size (by omega)).trans hb0
 have bw2:Below w.heap.size w W2:=((Below.refl _ _).alloc (Nat.le_refl _) _).trans (b2.mono (by omega))
 have hz2:w.heap.size + 1 ≤ W2.heap.size:=by have:=b2.size;rw [hz] at this;exact this
 have P1:=hide (unhide PR _ _ _ W2 hrow (by omega))
 have HX:=hide (And.intro hb2 (And.intro bw2 hz2))
 have e0:((s.size:Int) != (s.size:Int)) = false:=by simp
 clear NE hF hb hR hp CB PR b2 hb0 hb2 bw2 hz2 hrow
 go_enter Tryz.func16,Tryz.ntmps16
 go_wp2_with fail
 refine (unhide P1).mono ?_
 rintro e w1 ⟨rfl,b1⟩
 obtain ⟨x1,x2,x3⟩:=unhide HX
 have bw1:=x2.trans (b1.mono x2.size)
 have hb1:w1.heap[w.heap.size]? = some (.cells #[.int .i64 0,.int .i64 0,.float .f64 0] 46 (0,0)):=(b1.block w.heap.size (by omega)).trans x1
 have hz1:w.heap.size < w1.heap.size:=by have:=b1.size;omega
 have N1:=hide (unhide HN w1 ((unhide HF).below bw1))
 have HY:=hide (And.intro hb1 (And.intro bw1 hz1))
 clear b1 x1 x2 x3 bw1 hb1 hz1 HX P1 HN hcv
 go_wp2_with fail
 refine (unhide N1).mono ?_
 rintro e w2 ⟨rfl,b2⟩
 obtain ⟨x1,x2,x3⟩:=unhide HY
 have bw2:=x2.trans (b2.mono x2.size)
 have hb2:w2.heap[w.heap.size]? = some (.cells #[.int .i64 0,.int .i64 0,.float .f64 0] 46 (0,0)):=(b2.block w.heap.size x3).trans x1
 have hth:=hide (thr_cells hb2 (o:=0) (n:=3) (by decide))
 have HB:=hide bw2
 clear b2 x1 x2 x3 bw2 hb2 HY N1
 go_wp2_with fail
 refine (unhide HI _).mono ?_
 rintro e w3 ⟨rfl,hw⟩
 subst w3
 clear HI
 go_wp2_with (first
  | refine wpList_store_mid (by rfl) 46 _ _ (by rfl) w.heap.size 0 #[.int .i64 3,.int .i64 0,.float .f64 R] (by rfl) (by rfl) (unhide hth) infoNum (one_c (cs:=[.int .i64 3,.int .i64 0,.float .f64 R]) (by rfl)) ?_)
 refine bodyPost_ret (rgn.result_row_tmp rfl _ _ w.heap.size 0 [.int .i64 3,.int .i64 0,.float .f64 R] _ rfl (World.rangeAt_setCells_same _ _ _ _ (unhide hth)) Tryz.underlying46 rfl infoNum) rfl ?_
 exact ⟨rfl,bel_setCells _ _ _ _ (unhide HB) (Nat.le_refl _)⟩
set_option maxHeartbeats 1100000 in
set_option maxRecDepth 100000 in
theorem read_inf (s:ByteArray) (R:Nat) (w:World) (hF:dcm.Fz w) (hs:s.size ≤ 1100000) (hR:R < 18446744073709551616) (hnn:nanB R = false) (hb:badF R = true) (hp:pfx (bytZ s) 0 = (s.size,s.size,2))
  (NE:∀ W,dcm.Fz W → Calls Tryz.prog 34 #[.string s] W fun e w' => e = .returned (.float .f64 R) ∧ Below W.heap.size W w') :
  Calls Tryz.prog 16 #[.string s] w fun e w' => e = .returned (.tuple #[.agg #[.int .i64 0,.int .i64 0,.float .f64 0],.int .i64 7]) ∧ Below w.heap.size w w':=by
 have CB:=hide (conv_bytes s)
 have PR:=hide (fun a n c W (h:Row .u8 W a n c (bytZ s)) (hn:n ≤ 4611686018427387900) => prefix_in_b a n c (bytZ s) 0 W h hn (Nat.zero_le _))
 rw [hp] at PR
 have HN:=hide NE
 have HF:=hide hF
 have HI:=hide (fun W => isInf_ok R W hR hnn)
 rw [hb] at HI
 obtain ⟨cap,W2,hcv,hrow,b2⟩:=conv_bytes s (w.alloc (.cells #[.int .i64 0,.int .i64 0,.float .f64 0] 46))
 have hz:(w.alloc (.cells #[.int .i64 0,.int .i64 0,.float .f64 0] 46)).heap.size = w.heap.size + 1:=by simp
 rw [hz] at hcv hrow b2
 have hb0:(w.alloc (.cells #[.int .i64 0,.int .i64 0,.float .f64 0] 46)).heap[w.heap.size]? = some (.cells #[.int .i64 0,.int .i64 0,.float .f64 0] 46 (0,0)):=heap_alloc_new w _
 have hb2:W2.heap[w.heap.size]? = some (.cells #[.int .i64 0,.int .i64 0,.float .f64 0] 46 (0,0)):=(b2.block w.heap.size (by omega)).trans hb0
 have bw2:Below w.heap.size w W2:=((Below.refl _ _).alloc (Nat.le_refl _) _).trans (b2.mono (by omega))
 have hz2:w.heap.size + 1 ≤ W2.heap.size:=by have:=b2.size;rw [hz] at this;exact this
 have P1:=hide (unhide PR _ _ _ W2 hrow (by omega))
 have HX:=hide (And.intro hb2 (And.intro bw2 hz2))
 have e0:((s.size:Int) != (s.size:Int)) = false:=by simp
 clear NE hF hb hnn hR hp CB PR b2 hb0 hb2 bw2 hz2 hrow
 go_enter Tryz.func16,Tryz.ntmps16
 go_wp2_with fail
 refine (unhide P1).mono ?_
 rintro e w1 ⟨rfl,b1⟩
 obtain ⟨x1,x2,x3⟩:=unhide HX
 have bw1:=x2.trans (b1.mono x2.size)
 have hb1:w1.heap[w.heap.size]? = some (.cells #[.int .i64 0,.int .i64 0,.float .f64 0] 46 (0,0)):=(b1.block w.heap.size (by omega)).trans x1
 have hz1:w.heap.size < w1.heap.size:=by have:=b1.size;omega
 have N1:=hide (unhide HN w1 ((unhide HF).below bw1))
 have HY:=hide (And.intro hb1 (And.intro bw1 hz1))
 clear b1 x1 x2 x3 bw1 hb1 hz1 HX P1 HN hcv
 go_wp2_with fail
 refine (unhide N1).mono ?_
 rintro e w2 ⟨rfl,b2⟩
 obtain ⟨x1,x2,x3⟩:=unhide HY
 have bw2:=x2.trans (b2.mono x2.size)
 have hb2:w2.heap[w.heap.size]? = some (.cells #[.int .i64 0,.int .i64 0,.float .f64 0] 46 (0,0)):=(b2.block w.heap.size x3).trans x1
 have hth:=hide (thr_cells hb2 (o:=0) (n:=3) (by decide))
 have HB:=hide bw2
 clear b2 x1 x2 x3 bw2 hb2 HY N1
 go_wp2_with fail
 refine (unhide HI _).mono ?_
 rintro e w3 ⟨rfl,hw⟩
 subst w3
 clear HI
 go_wp2_with (first
  | refine wpList_store_mid (by rfl) 46 _ _ (by rfl) w.heap.size 0 #[.int .i64 0,.int .i64 0,.float .f64 0] (by rfl) (by rfl) (unhide hth) infoNum (one_c (cs:=[.int .i64 0,.int .i64 0,.float .f64 0]) (by rfl)) ?_)
 refine bodyPost_ret (rgn.result_row_tmp rfl _ _ w.heap.size 0 [.int .i64 0,.int .i64 0,.float .f64 0] _ rfl (World.rangeAt_setCells_same _ _ _ _ (unhide hth)) Tryz.underlying46 rfl infoNum) rfl ?_
 exact ⟨rfl,bel_setCells _ _ _ _ (unhide HB) (Nat.le_refl _)⟩
end Go.Proofs.YtdogjghalplohaaGreatDoor.fto
namespace Go.Proofs.YtdogjghalplohaaGreatDoor.fto
open Go.ChangeShapes Go.WideShapes Go.ChangeAt Go.RowKit
open mem Go.Sort
open ints (hide unhide)
set_option linter.unusedVariables false
set_option linter.unusedSimpArgs false
set_option maxHeartbeats 1100000 in
set_option maxRecDepth 100000 in
theorem read_none (s:ByteArray) (en st:Nat) (fm:Int) (w:World) (hs:s.size ≤ 1100000) (hp:pfx (bytZ s) 0 = (en,st,fm)) (hen:en ≤ s.size) (hfm:0 ≤ fm ∧ fm ≤ 2) (hno:fm = 0 ∨ en ≠ s.size) :
  Calls Tryz.prog 16 #[.string s] w fun e w' => e = .returned (.tuple #[.agg #[.int .i64 0,.int .i64 0,.float .f64 0],.int .i64 20]) ∧ Below w.heap.size w w':=by
 have CB:=hide (conv_bytes s)
 have PR:=hide (fun a n c W (h:Row .u8 W a n c (bytZ s)) (hn:n ≤ 4611686018427387900) => prefix_in_b a n c (bytZ s) 0 W h hn (Nat.zero_le _))
 rw [hp] at PR
 obtain ⟨cap,W2,hcv,hrow,b2⟩:=conv_bytes s (w.alloc (.cells #[.int .i64 0,.int .i64 0,.float .f64 0] 46))
 have hz:(w.alloc (.cells #[.int .i64 0,.int .i64 0,.float .f64 0] 46)).heap.size = w.heap.size + 1:=by simp
 rw [hz] at hcv hrow b2
 have hb0:(w.alloc (.cells #[.int .i64 0,.int .i64 0,.float .f64 0] 46)).heap[w.heap.size]? = some (.cells #[.int .i64 0,.int .i64 0,.float .f64 0] 46 (0,0)):=heap_alloc_new w _
 have hb2:W2.heap[w.heap.size]? = some (.cells #[.int .i64 0,.int .i64 0,.float .f64 0] 46 (0,0)):=(b2.block w.heap.size (by omega)).trans hb0
 have bw2:Below w.heap.size w W2:=((Below.refl _ _).alloc (Nat.le_refl _) _).trans (b2.mono (by omega))
 have hz2:w.heap.size + 1 ≤ W2.heap.size:=by have:=b2.size;rw [hz] at this;exact this
 have P1:=hide (unhide PR _ _ _ W2 hrow (by omega))
 have HX:=hide (And.intro hb2 (And.intro bw2 hz2))
 clear hp CB PR b2 hb0 hb2 bw2 hz2 hrow
 go_enter Tryz.func16,Tryz.ntmps16
 go_wp2_with fail
 refine (unhide P1).mono ?_
 rintro e w1 ⟨rfl,b1⟩
 obtain ⟨x1,x2,x3⟩:=unhide HX
 have bw1:=x2.trans (b1.mono x2.size)
 have hb1:w1.heap[w.heap.size]? = some (.cells #[.int .i64 0,.int .i64 0,.float .f64 0] 46 (0,0)):=(b1.block w.heap.size (by omega)).trans x1
 have hz1:w.heap.size < w1.heap.size:=by have:=b1.size;omega
 have hth:=hide (thr_cells hb1 (o:=0) (n:=3) (by decide))
 have HB:=hide bw1
 clear b1 x1 x2 x3 bw1 hb1 hz1 HX P1 hcv
 by_cases h0:fm = 0
 ·subst h0
  go_wp2_with (first
   | refine wpList_store_mid (by rfl) 46 _ _ (by rfl) w.heap.size 0 #[.int .i64 0,.int .i64 0,.float .f64 0] (by rfl) (by rfl) (unhide hth) infoNum (one_c (cs:=[.int .i64 0,.int .i64 0,.float .f64 0]) (by rfl)) ?_)
  refine bodyPost_ret (rgn.result_row_tmp rfl _ _ w.heap.size 0 [.int .i64 0,.int .i64 0,.float .f64 0] _ rfl (World.rangeAt_setCells_same _ _ _ _ (unhide hth)) Tryz.underlying46 rfl infoNum) rfl ?_
  exact ⟨rfl,bel_setCells _ _ _ _ (unhide HB) (Nat.le_refl _)⟩
 ·have hne:en ≠ s.size:=by exact hno.resolve_left h0
  have e0:(fm == 0) = false:=by rw [beq_eq_false_iff_ne];exact h0
  have e1:((en:Int) != (s.size:Int)) = true:=by simp;omega
  go_wp2_with (first
   | refine wpList_store_mid (by rfl) 46 _ _ (by rfl) w.heap.size 0 #[.int .i64 0,.int .i64 0,.float .f64 0] (by rfl) (by rfl) (unhide hth) infoNum (one_c (cs:=[.int .i64 0,.int .i64 0,.float .f64 0]) (by rfl)) ?_)
  refine bodyPost_ret (rgn.result_row_tmp rfl _ _ w.heap.size 0 [.int .i64 0,.int .i64 0,.float .f64 0] _ rfl (World.rangeAt_setCells_same _ _ _ _ (unhide hth)) Tryz.underlying46 rfl infoNum) rfl ?_
  exact ⟨rfl,bel_setCells _ _ _ _ (unhide HB) (Nat.le_refl _)⟩
end Go.Proofs.YtdogjghalplohaaGreatDoor.fto
namespace Go.Proofs.YtdogjghalplohaaGreatDoor.fto
open Go.ChangeShapes Go.WideShapes Go.ChangeAt Go.RowKit
open mem Go.Sort
open ints (hide unhide)
set_option linter.unusedVariables false
set_option linter.unusedSimpArgs false
theorem pi_range (s:ByteArray) (hlim:s.size ≤ 281474976710656) (h:Lib.parseIntB 64 s.data.toList = .range) (ev:Value) (w:World) (hv:w.cell? ⟨3,0,none⟩ = some ev) (hev:ev = .nilIface ∨ ∃ te pe,ev = .iface te pe) :
  Calls Tryz.prog 33 #[.string s,.int .i64 10,.int .i64 64] w fun e w' => (∃ N T,e = .returned (.tuple #[.int .i64 (Lib.intSat 64 s.data.toList),.iface T (.pointer (some ⟨N,0,none⟩))])) ∧ Below w.heap.size w w':=by
 refine (Any.strconv_ParseInt_10_at64_range Tryz.laysC174 s hlim h ev w hv hev).mono ?_
 rintro e w' ⟨N,h1,-,-,h4⟩
 exact ⟨⟨N,_,h1⟩,h4⟩
set_option maxHeartbeats 1100000 in
set_option maxRecDepth 100000 in
theorem read_wfin (s:ByteArray) (R:Nat) (w:World) (hF:dcm.Fz w) (hs:s.size ≤ 1100000) (hR:R < 18446744073709551616) (hb:badF R = false) (hp:pfx (bytZ s) 0 = (s.size,s.size,1)) (hrg:Lib.parseIntB 64 s.data.toList = .range)
  (NE:∀ W,dcm.Fz W → Calls Tryz.prog 34 #[.string s] W fun e w' => e = .returned (.float .f64 R) ∧ Below W.heap.size W w') :
  Calls Tryz.prog 16 #[.string s] w fun e w' => e = .returned (.tuple #[.agg #[.int .i64 3,.int .i64 0,.float .f64 R],.int .i64 0]) ∧ Below w.heap.size w w':=by
 have CB:=hide (conv_bytes s)
 have PR:=hide (fun a n c W (h:Row .u8 W a n c (bytZ s)) (hn:n ≤ 4611686018427387900) => prefix_in_b a n c (bytZ s) 0 W h hn (Nat.zero_le _))
 rw [hp] at PR
 have HN:=hide NE
 have HRG:=hide hrg
 have HF:=hide hF
 have HI:=hide (fun W => isInf_ok R W hR (nan_bad hb))
 rw [hb] at HI
 obtain ⟨cap,W2,hcv,hrow,b2⟩:=conv_bytes s (w.alloc (.cells #[.int .i64 0,.int .i64 0,.float .f64 0] 46))
 have hz:(w.alloc (.cells #[.int .i64 0,.int .i64 0,.float .f64 0] 46)).heap.size = w.heap.size + 1:=by simp
 rw [hz] at hcv hrow b2
 have hb0:(w.alloc (.cells #[.int .i64 0,.int .i64 0,.float .f64 0] 46)).heap[w.heap.size]? = some (.cells #[.int .i64 0,.int .i64 0,.float .f64 0] 46 (0,0)):=heap_alloc_new w _
 have hb2:W2.heap[w.heap.size]? = some (.cells #[.int .i64 0,.int .i64 0,.float .f64 0] 46 (0,0)):=(b2.block w.heap.size (by omega)).trans hb0
 have bw2:Below w.heap.size w W2:=((Below.refl _ _).alloc (Nat.le_refl _) _).trans (b2.mono (by omega))
 have hz2:w.heap.size + 1 ≤ W2.heap.size:=by have:=b2.size;rw [hz] at this;exact this
 have P1:=hide (unhide PR _ _ _ W2 hrow (by omega))
 have HX:=hide (And.intro hb2 (And.intro bw2 hz2))
 have e0:((s.size:Int) != (s.size:Int)) = false:=by simp
 clear hrg NE hF hb hR hp CB PR b2 hb0 hb2 bw2 hz2 hrow
 go_enter Tryz.func16,Tryz.ntmps16
 go_wp2_with fail
 refine (unhide P1).mono ?_
 rintro e w1 ⟨rfl,b1⟩
 obtain ⟨x1,x2,x3⟩:=unhide HX
 have bw1:=x2.trans (b1.mono x2.size)
 have hb1:w1.heap[w.heap.size]? = some (.cells #[.int .i64 0,.int .i64 0,.float .f64 0] 46 (0,0)):=(b1.block w.heap.size (by omega)).trans x1
 have hz1:w.heap.size < w1.heap.size:=by have:=b1.size;omega
 obtain ⟨ev,v1,v2⟩:=((unhide HF).below bw1).ev.ev
 have PI:=hide (pi_range s (by omega) (unhide HRG) ev w1 v1 v2)
 have HY0:=hide (And.intro hb1 (And.intro bw1 hz1))
 clear b1 x1 x2 x3 bw1 hb1 hz1 HX P1 hcv v1 v2
 go_wp2_with fail
 refine (unhide PI).mono ?_
 rintro e w1' ⟨⟨NN,TT,rfl⟩,b1'⟩
 obtain ⟨y1,y2,y3⟩:=unhide HY0
 have bw1':=y2.trans (b1'.mono y2.size)
 have hb1':w1'.heap[w.heap.size]? = some (.cells #[.int .i64 0,.int .i64 0,.float .f64 0] 46 (0,0)):=(b1'.block w.heap.size y3).trans y1
 have hz1':w.heap.size < w1'.heap.size:=by have:=b1'.size;omega
 have N1:=hide (unhide HN w1' ((unhide HF).below bw1'))
 have HY:=hide (And.intro hb1' (And.intro bw1' hz1'))
 clear b1' y1 y2 y3 bw1' hb1' hz1' HY0 PI HN
 go_wp2_with fail
 refine (unhide N1).mono ?_
 rintro e w2 ⟨rfl,b2⟩
 obtain ⟨x1,x2,x3⟩:=unhide HY
 have bw2:=x2.trans (b2.mono x2.size)
 have hb2:w2.heap[w.heap.size]? = some (.cells #[.int .i64 0,.int .i64 0,.float .f64 0] 46 (0,0)):=(b2.block w.heap.size x3).trans x1
 have hth:=hide (thr_cells hb2 (o:=0) (n:=3) (by decide))
 have HB:=hide bw2
 clear b2 x1 x2 x3 bw2 hb2 HY N1
 go_wp2_with fail
 refine (unhide HI _).mono ?_
 rintro e w3 ⟨rfl,hw⟩
 subst w3
 clear HI
 go_wp2_with (first
  | refine wpList_store_mid (by rfl) 46 _ _ (by rfl) w.heap.size 0 #[.int .i64 3,.int .i64 0,.float .f64 R] (by rfl) (by rfl) (unhide hth) infoNum (one_c (cs:=[.int .i64 3,.int .i64 0,.float .f64 R]) (by rfl)) ?_)
 refine bodyPost_ret (rgn.result_row_tmp rfl _ _ w.heap.size 0 [.int .i64 3,.int .i64 0,.float .f64 R] _ rfl (World.rangeAt_setCells_same _ _ _ _ (unhide hth)) Tryz.underlying46 rfl infoNum) rfl ?_
 exact ⟨rfl,bel_setCells _ _ _ _ (unhide HB) (Nat.le_refl _)⟩
set_option maxHeartbeats 1100000 in
set_option maxRecDepth 100000 in
theorem read_winf (s:ByteArray) (R:Nat) (w:World) (hF:dcm.Fz w) (hs:s.size ≤ 1100000) (hR:R < 18446744073709551616) (hnn:nanB R = false) (hb:badF R = true) (hp:pfx (bytZ s) 0 = (s.size,s.size,1)) (hrg:Lib.parseIntB 64 s.data.toList = .range)
  (NE:∀ W,dcm.Fz W → Calls Tryz.prog 34 #[.string s] W fun e w' => e = .returned (.float .f64 R) ∧ Below W.heap.size W w') :
  Calls Tryz.prog 16 #[.string s] w fun e w' => e = .returned (.tuple #[.agg #[.int .i64 0,.int .i64 0,.float .f64 0],.int .i64 7]) ∧ Below w.heap.size w w':=by
 have CB:=hide (conv_bytes s)
 have PR:=hide (fun a n c W (h:Row .u8 W a n c (bytZ s)) (hn:n ≤ 4611686018427387900) => prefix_in_b a n c (bytZ s) 0 W h hn (Nat.zero_le _))
 rw [hp] at PR
 have HN:=hide NE
 have HRG:=hide hrg
 have HF:=hide hF
 have HI:=hide (fun W => isInf_ok R W hR hnn)
 rw [hb] at HI
 obtain ⟨cap,W2,hcv,hrow,b2⟩:=conv_bytes s (w.alloc (.cells #[.int .i64 0,.int .i64 0,.float .f64 0] 46))
 have hz:(w.alloc (.cells #[.int .i64 0,.int .i64 0,.float .f64 0] 46)).heap.size = w.heap.size + 1:=by simp
 rw [hz] at hcv hrow b2
 have hb0:(w.alloc (.cells #[.int .i64 0,.int .i64 0,.float .f64 0] 46)).heap[w.heap.size]? = some (.cells #[.int .i64 0,.int .i64 0,.float .f64 0] 46 (0,0)):=heap_alloc_new w _
 have hb2:W2.heap[w.heap.size]? = some (.cells #[.int .i64 0,.int .i64 0,.float .f64 0] 46 (0,0)):=(b2.block w.heap.size (by omega)).trans hb0
 have bw2:Below w.heap.size w W2:=((Below.refl _ _).alloc (Nat.le_refl _) _).trans (b2.mono (by omega))
 have hz2:w.heap.size + 1 ≤ W2.heap.size:=by have:=b2.size;rw [hz] at this;exact this
 have P1:=hide (unhide PR _ _ _ W2 hrow (by omega))
 have HX:=hide (And.intro hb2 (And.intro bw2 hz2))
 have e0:((s.size:Int) != (s.size:Int)) = false:=by simp
 clear hrg NE hF hb hnn hR hp CB PR b2 hb0 hb2 bw2 hz2 hrow
 go_enter Tryz.func16,Tryz.ntmps16
 go_wp2_with fail
 refine (unhide P1).mono ?_
 rintro e w1 ⟨rfl,b1⟩
 obtain ⟨x1,x2,x3⟩:=unhide HX
 have bw1:=x2.trans (b1.mono x2.size)
 have hb1:w1.heap[w.heap.size]? = some (.cells #[.int .i64 0,.int .i64 0,.float .f64 0] 46 (0,0)):=(b1.block w.heap.size (by omega)).trans x1
 have hz1:w.heap.size < w1.heap.size:=by have:=b1.size;omega
 obtain ⟨ev,v1,v2⟩:=((unhide HF).below bw1).ev.ev
 have PI:=hide (pi_range s (by omega) (unhide HRG) ev w1 v1 v2)
 have HY0:=hide (And.intro hb1 (And.intro bw1 hz1))
 clear b1 x1 x2 x3 bw1 hb1 hz1 HX P1 hcv v1 v2
 go_wp2_with fail
 refine (unhide PI).mono ?_
 rintro e w1' ⟨⟨NN,TT,rfl⟩,b1'⟩
 obtain ⟨y1,y2,y3⟩:=unhide HY0
 have bw1':=y2.trans (b1'.mono y2.size)
 have hb1':w1'.heap[w.heap.size]? = some (.cells #[.int .i64 0,.int .i64 0,.float .f64 0] 46 (0,0)):=(b1'.block w.heap.size y3).trans y1
 have hz1':w.heap.size < w1'.heap.size:=by have:=b1'.size;omega
 have N1:=hide (unhide HN w1' ((unhide HF).below bw1'))
 have HY:=hide (And.intro hb1' (And.intro bw1' hz1'))
 clear b1' y1 y2 y3 bw1' hb1' hz1' HY0 PI HN
 go_wp2_with fail
 refine (unhide N1).mono ?_
 rintro e w2 ⟨rfl,b2⟩
 obtain ⟨x1,x2,x3⟩:=unhide HY
 have bw2:=x2.trans (b2.mono x2.size)
 have hb2:w2.heap[w.heap.size]? = some (.cells #[.int .i64 0,.int .i64 0,.float .f64 0] 46 (0,0)):=(b2.block w.heap.size x3).trans x1
 have hth:=hide (thr_cells hb2 (o:=0) (n:=3) (by decide))
 have HB:=hide bw2
 clear b2 x1 x2 x3 bw2 hb2 HY N1
 go_wp2_with fail
 refine (unhide HI _).mono ?_
 rintro e w3 ⟨rfl,hw⟩
 subst w3
 clear HI
 go_wp2_with (first
  | refine wpList_store_mid (by rfl) 46 _ _ (by rfl) w.heap.size 0 #[.int .i64 0,.int .i64 0,.float .f64 0] (by rfl) (by rfl) (unhide hth) infoNum (one_c (cs:=[.int .i64 0,.int .i64 0,.float .f64 0]) (by rfl)) ?_)
 refine bodyPost_ret (rgn.result_row_tmp rfl _ _ w.heap.size 0 [.int .i64 0,.int .i64 0,.float .f64 0] _ rfl (World.rangeAt_setCells_same _ _ _ _ (unhide hth)) Tryz.underlying46 rfl infoNum) rfl ?_
 exact ⟨rfl,bel_setCells _ _ _ _ (unhide HB) (Nat.le_refl _)⟩
end Go.Proofs.YtdogjghalplohaaGreatDoor.fto
namespace Go.Proofs.YtdogjghalplohaaGreatDoor.fto
open mem
set_option linter.unusedVariables false
set_option linter.unusedSimpArgs false
def aut (l:List Int):Int:=l.foldl stepZ 0
theorem aut_snoc (l:List Int) (c:Int):aut (l ++ [c]) = stepZ (aut l) c:=by simp [aut]
def numP (l:List Int):Bool:=decide (formZ (aut l) ≠ 0)
structure Wh (A:List Int):Prop where
 dg:Dg A
 ne:A ≠ []
 one:∀ r,A = 48 :: r → r = []
inductive Sh:Int → List Int → Prop
 | s0:Sh 0 []
 | s1:Sh 1 [45]
 | s2 (ng:Bool):Sh 2 (sgL ng ++ [48])
 | s3 (ng:Bool) (A:List Int) (h:Dg A) (h0:A ≠ []) (h1:∀ r,A ≠ 48 :: r):Sh 3 (sgL ng ++ A)
 | s4 (ng:Bool) (A:List Int) (h:Wh A):Sh 4 (sgL ng ++ (A ++ [46]))
 | s5 (ng:Bool) (A F:List Int) (h:Wh A) (hF:Dg F) (h0:F ≠ []):Sh 5 (sgL ng ++ (A ++ 46 :: F))
 | s6 (ng:Bool) (A F:List Int) (ec:Int) (h:Wh A) (hF:Dg F) (he:ec = 101 ∨ ec = 69):Sh 6 (sgL ng ++ (A ++ (frL F ++ [ec])))
 | s7 (ng:Bool) (A F:List Int) (ec:Int) (b:Bool) (h:Wh A) (hF:Dg F) (he:ec = 101 ∨ ec = 69):Sh 7 (sgL ng ++ (A ++ (frL F ++ ec :: sg3 (some b))))
 | s8 (ng:Bool) (A F:List Int) (ec:Int) (o:Option Bool) (X:List Int) (h:Wh A) (hF:Dg F) (he:ec = 101 ∨ ec = 69) (hX:Dg X) (h0:X ≠ []):Sh 8 (sgL ng ++ (A ++ (frL F ++ ec :: (sg3 o ++ X))))
 | dead (l:List Int):Sh (-1) l
theorem Sh.of {st st':Int} {l l':List Int} (h:Sh st l) (e:st = st') (e2:l = l'):Sh st' l':=by subst e;subst e2;exact h
theorem dg_one {c:Int} (h:digB c = true):Dg [c]:=fun z hz => by
 simp at hz;subst hz
 unfold digB at h
 simpa using h
theorem Sh.step {st:Int} {l:List Int} (h:Sh st l) (c:Int):Sh (stepZ st c) (l ++ [c]):=by
 have hdig:∀ z,digB z = true → 48 ≤ z ∧ z ≤ 57:=fun z hz => by unfold digB at hz;simpa using hz
 cases h with
 | s0 =>
  by_cases h1:c = 45
  ·subst h1;exact Sh.s1
  ·by_cases h2:c = 48
   ·subst h2;exact Sh.s2 false
   ·cases hd:digB c
    ·exact (Sh.dead _).of (by simp [stepZ,h1,h2,hd]) rfl
    ·exact (Sh.s3 false [c] (dg_one hd) (by simp) (fun r e => h2 (by simpa using (List.cons.inj e).1))).of (by simp [stepZ,h1,h2,hd]) (by simp [sgL])
 | s1 =>
  by_cases h2:c = 48
  ·subst h2;exact Sh.s2 true
  ·cases hd:digB c
   ·exact (Sh.dead _).of (by simp [stepZ,h2,hd]) rfl
   ·exact (Sh.s3 true [c] (dg_one hd) (by simp) (fun r e => h2 (by simpa using (List.cons.inj e).1))).of (by simp [stepZ,h2,hd]) (by simp [sgL])
 | s2 ng =>
  have hw:Wh [48]:=⟨fun z hz => by simp at hz;omega,by simp,fun r e => by simpa using e.symm⟩
  by_cases h1:c = 46
  ·subst h1;exact (Sh.s4 ng [48] hw).of (by decide) (by simp)
  ·by_cases h2:c = 101 ∨ c = 69
   ·exact (Sh.s6 ng [48] [] c hw Dg.nil h2).of (by simp [stepZ,h1,h2]) (by simp [frL])
   ·exact (Sh.dead _).of (by simp [stepZ,h1,h2]) rfl
 | s3 ng A h h0 h1 =>
  have hw:Wh A:=⟨h,h0,fun r e => absurd e (h1 r)⟩
  cases hd:digB c
  ·by_cases h1:c = 46
   ·subst h1;exact (Sh.s4 ng A hw).of (by decide) (by simp)
   ·by_cases h2:c = 101 ∨ c = 69
    ·exact (Sh.s6 ng A [] c hw Dg.nil h2).of (by simp [stepZ,hd,h1,h2]) (by simp [frL])
    ·exact (Sh.dead _).of (by simp [stepZ,hd,h1,h2]) rfl
  ·refine (Sh.s3 ng (A ++ [c]) (h.app (dg_one hd)) (by simp) ?_).of (by simp [stepZ,hd]) (by simp)
   intro r e
   cases A with
   | nil => exact h0 rfl
   | cons a A' => exact h1 A' (by rw [(List.cons.inj e).1])
 | s4 ng A h =>
  cases hd:digB c
  ·exact (Sh.dead _).of (by simp [stepZ,hd]) rfl
  ·exact (Sh.s5 ng A [c] h (dg_one hd) (by simp)).of (by simp [stepZ,hd]) (by simp)
 | s5 ng A F h hF h0 =>
  cases hd:digB c
  ·by_cases h2:c = 101 ∨ c = 69
   ·exact (Sh.s6 ng A F c h hF h2).of (by simp [stepZ,hd,h2]) (by simp [frL,h0])
   ·exact (Sh.dead _).of (by simp [stepZ,hd,h2]) rfl
  ·exact (Sh.s5 ng A (F ++ [c]) h (hF.app (dg_one hd)) (by simp)).of (by simp [stepZ,hd]) (by simp)
 | s6 ng A F ec h hF he =>
  cases hd:digB c
  ·by_cases h1:c = 43
   ·subst h1;exact (Sh.s7 ng A F ec false h hF he).of (by decide) (by simp [sg3])
   ·by_cases h2:c = 45
    ·subst h2;exact (Sh.s7 ng A F ec true h hF he).of (by decide) (by simp [sg3])
    ·exact (Sh.dead _).of (by simp [stepZ,hd,h1,h2]) rfl
  ·exact (Sh.s8 ng A F ec none [c] h hF he (dg_one hd) (by simp)).of (by simp [stepZ,hd]) (by simp [sg3])
 | s7 ng A F ec b h hF he =>
  cases hd:digB c
  ·exact (Sh.dead _).of (by simp [stepZ,hd]) rfl
  ·exact (Sh.s8 ng A F ec (some b) [c] h hF he (dg_one hd) (by simp)).of (by simp [stepZ,hd]) (by simp)
 | s8 ng A F ec o X h hF he hX h0 =>
  cases hd:digB c
  ·exact (Sh.dead _).of (by simp [stepZ,hd]) rfl
  ·exact (Sh.s8 ng A F ec o (X ++ [c]) h hF he (hX.app (dg_one hd)) (by simp)).of (by simp [stepZ,hd]) (by simp)
 | dead l => exact (Sh.dead _).of (by simp [stepZ]) rfl
theorem sh_all (l:List Int):Sh (aut l) l:=by
 have:∀ r:List Int,Sh (aut r.reverse) r.reverse:=by
  intro r
  induction r with
  | nil => exact Sh.s0
  | cons c r ih => rw [List.reverse_cons,aut_snoc];exact ih.step c
 have h:=this l.reverse
 rwa [List.reverse_reverse] at h
theorem num_parts (l:List Int) (h:formZ (aut l) ≠ 0) :
  ∃ (ng:Bool) (A F:List Int) (E:Option (Int × Option Bool × List Int)),l = sgL ng ++ (A ++ (frL F ++ exA E)) ∧ Wh A ∧ Dg F ∧
   (∀ q,E = some q → (q.1 = 101 ∨ q.1 = 69) ∧ Dg q.2.2 ∧ q.2.2 ≠ []) ∧ formZ (aut l) = if F = [] ∧ E = none then 1 else 2:=by
 have hs:=sh_all l
 generalize hst:aut l = st at hs h
 cases hs with
 | s0 => exact absurd rfl h
 | s1 => exact absurd rfl h
 | s2 ng => exact ⟨ng,[48],[],none,by simp [frL,exA],⟨fun z hz => by simp at hz;omega,by simp,fun r e => by simpa using e.symm⟩,Dg.nil,fun q e => by simp at e,by simp [formZ]⟩
 | s3 ng A h1 h2 h3 => exact ⟨ng,A,[],none,by simp [frL,exA],⟨h1,h2,fun r e => absurd e (h3 r)⟩,Dg.nil,fun q e => by simp at e,by simp [formZ]⟩
 | s4 => exact absurd rfl h
 | s5 ng A F h1 h2 h3 => exact ⟨ng,A,F,none,by simp [frL,exA,h3],h1,h2,fun q e => by simp at e,by simp [formZ,h3]⟩
 | s6 => exact absurd rfl h
 | s7 => exact absurd rfl h
 | s8 ng A F ec o X h1 h2 h3 h4 h5 => exact ⟨ng,A,F,some (ec,o,X),by simp [exA],h1,h2,fun q e => by cases e;exact ⟨h3,h4,h5⟩,by simp [formZ]⟩
 | dead => exact absurd rfl h
structure PxI (l:List Int) (p:Nat) (e s:Nat) (f:Int):Prop where
 pe:p ≤ e
 es:e ≤ s
 sl:s ≤ l.length
 no:∀ k,e < k → k ≤ s → formZ (aut ((l.drop p).take (k - p))) = 0
 fm:formZ (aut ((l.drop p).take (e - p))) = f
 lv:0 ≤ aut ((l.drop p).take (s - p))
 st:s < l.length → aut ((l.drop p).take (s + 1 - p)) < 0
 nz:p < e → f ≠ 0
theorem take_one (l:List Int) (p k:Nat) (hp:p ≤ k) (hk:k < l.length):(l.drop p).take (k + 1 - p) = (l.drop p).take (k - p) ++ [l.getD k 0]:=by
 rw [show k + 1 - p = (k - p) + 1 by omega,List.take_add_one,List.getElem?_drop,show p + (k - p) = k by omega,List.getElem?_eq_getElem hk,List.getD_eq_getElem?_getD,List.getElem?_eq_getElem hk]
 rfl
theorem runF_ok (l:List Int) (p:Nat):∀ (m k e:Nat) (st f:Int),m = l.length - k → p ≤ e → e ≤ k → k ≤ l.length → aut ((l.drop p).take (k - p)) = st → 0 ≤ st →
  (∀ j,e < j → j ≤ k → formZ (aut ((l.drop p).take (j - p))) = 0) → formZ (aut ((l.drop p).take (e - p))) = f → (p < e → f ≠ 0) → PxI l p (runF l m st e f k).1 (runF l m st e f k).2.1 (runF l m st e f k).2.2:=by
 intro m
 induction m with
 | zero =>
  intro k e st f hm h1 h2 h3 h4 h5 h6 h7 h8
  have hk:k = l.length:=by omega
  subst hk
  exact ⟨h1,h2,Nat.le_refl _,h6,h7,by show 0 ≤ aut ((l.drop p).take (l.length - p));rw [h4];exact h5,fun h => absurd h (Nat.lt_irrefl _),h8⟩
 | succ m ih =>
  intro k e st f hm h1 h2 h3 h4 h5 h6 h7 h8
  have hk:k < l.length:=by omega
  have hst:aut ((l.drop p).take (k + 1 - p)) = stepZ st (l.getD k 0):=by rw [take_one l p k (by omega) hk,aut_snoc,h4]
  simp only [runF]
  by_cases c1:stepZ st (l.getD k 0) < 0
  ·rw [if_pos c1]
   exact ⟨h1,h2,h3,h6,h7,by show 0 ≤ aut ((l.drop p).take (k - p));rw [h4];exact h5,fun _ => by show aut ((l.drop p).take (k + 1 - p)) < 0;rw [hst];exact c1,h8⟩
  ·rw [if_neg c1]
   by_cases c2:formZ (stepZ st (l.getD k 0)) = 0
   ·rw [if_neg (by rw [c2];simp)]
    refine ih (k + 1) e _ f (by omega) h1 (by omega) (by omega) hst (by omega) ?_ h7 h8
    intro j j1 j2
    by_cases hj:j = k + 1
    ·subst hj;rw [hst];exact c2
    ·exact h6 j j1 (by omega)
   ·rw [if_pos c2]
    refine ih (k + 1) (k + 1) _ _ (by omega) (by omega) (Nat.le_refl _) (by omega) hst (by omega) ?_ (by rw [hst]) (fun _ => c2)
    intro j j1 j2;omega
theorem pfx_ok (l:List Int) (p:Nat) (hp:p ≤ l.length):PxI l p (pfx l p).1 (pfx l p).2.1 (pfx l p).2.2:=by
 rw [← pfx_run l p hp]
 unfold run
 exact runF_ok l p _ p p 0 0 rfl (Nat.le_refl _) (Nat.le_refl _) hp (by rw [Nat.sub_self,List.take_zero];rfl) (by omega) (fun j h1 h2 => by omega) (by rw [Nat.sub_self,List.take_zero];rfl) (fun h => absurd h (Nat.lt_irrefl _))
theorem step_dead (st c:Int) (h:st < 0):stepZ st c < 0:=by
 unfold stepZ
 rw [if_neg (by omega),if_neg (by omega),if_neg (by omega),if_neg (by omega),if_neg (by omega),if_neg (by omega)]
 omega
theorem fold_dead (r:List Int):∀ st:Int,st < 0 → r.foldl stepZ st < 0:=by
 induction r with
 | nil => intro st h;exact h
 | cons c r ih => intro st h;exact ih _ (step_dead st c h)
theorem form_dead {st:Int} (h:st < 0):formZ st = 0:=by
 unfold formZ
 rw [if_neg (by omega),if_neg (by omega)]
theorem pfx_num (l:List Int) (h:formZ (aut l) ≠ 0):pfx l 0 = (l.length,l.length,formZ (aut l)):=by
 obtain ⟨h1,h2,h3,h4,h5,h6,h7,-⟩:=pfx_ok l 0 (Nat.zero_le _)
 have full:∀ k,k = l.length → (l.drop 0).take (k - 0) = l:=fun k hk => by rw [hk];simp
 have es:(pfx l 0).2.1 = l.length:=by
  rcases Nat.lt_or_ge (pfx l 0).2.1 l.length with hlt | hge
  ·exfalso
   have hd:=h7 hlt
   have:aut l < 0:=by
    have hsplit:l = (l.drop 0).take ((pfx l 0).2.1 + 1 - 0) ++ l.drop ((pfx l 0).2.1 + 1):=by simp
    unfold aut at hd ⊢
    rw [hsplit,List.foldl_append]
    exact fold_dead _ _ hd
   exact h (form_dead this)
  ·omega
 have ee:(pfx l 0).1 = l.length:=by
  rcases Nat.lt_or_ge (pfx l 0).1 l.length with hlt | hge
  ·exfalso
   have:=h4 l.length hlt (by omega)
   rw [full _ rfl] at this
   exact h this
  ·omega
 rw [full _ ee] at h5
 rw [h5]
 exact Prod.ext ee (Prod.ext es rfl)
theorem pfx_none (l:List Int) (h:formZ (aut l) = 0):(pfx l 0).2.2 = 0 ∨ (pfx l 0).1 ≠ l.length:=by
 obtain ⟨h1,h2,h3,h4,h5,h6,h7,-⟩:=pfx_ok l 0 (Nat.zero_le _)
 by_cases he:(pfx l 0).1 = l.length
 ·left
  rw [← h5,he]
  simpa using h
 ·exact Or.inr he
theorem form_rng (st:Int):0 ≤ formZ st ∧ formZ st ≤ 2:=by
 unfold formZ
 split
 ·omega
 ·split <;> omega
end Go.Proofs.YtdogjghalplohaaGreatDoor.fto
namespace Go.Proofs.YtdogjghalplohaaGreatDoor.fto
open mem
set_option linter.unusedVariables false
set_option linter.unusedSimpArgs false
def inI (ng:Bool) (n:Nat):Bool:=if ng then decide (n ≤ 9223372036854775808) else decide (n < 9223372036854775808)
def svI (ng:Bool) (n:Nat):Int:=if ng then -(n:Int) else (n:Int)
theorem pum_all:∀ (l:List Int) (acc:Nat),Dg l → acc ≤ 18446744073709551615 → Lib.parseUintM (2 ^ 64 - 1) acc (u8s l) = if acc * 10 ^ l.length + dv l ≤ 18446744073709551615 then .ok (acc * 10 ^ l.length + dv l) else .range:=by
 intro l
 induction l with
 | nil => intro acc _ h;simp [u8s,Lib.parseUintM,dv,h]
 | cons c r ih =>
  intro acc hD ha
  have hc:=hD c (by simp)
  have e2:(UInt8.ofNat c.toNat).toNat = c.toNat:=UInt8.toNat_ofNat_of_lt' (by show _ < 256;omega)
  have hp:1 ≤ 10 ^ r.length:=Nat.pow_pos (by decide)
  have key:acc * 10 ^ (c :: r).length + dv (c :: r) = (acc * 10 + (c - 48).toNat) * 10 ^ r.length + dv r:=by
   rw [dv_cons,List.length_cons,Nat.pow_succ (n:=10),Nat.add_mul,Nat.mul_comm (10 ^ r.length) 10,← Nat.mul_assoc]
   omega
  rw [key]
  have h1:(acc * 10 + (c - 48).toNat) * 1 ≤ (acc * 10 + (c - 48).toNat) * 10 ^ r.length:=Nat.mul_le_mul_left _ hp
  have h2:(UInt8.ofNat c.toNat).toNat - 48 = (c - 48).toNat:=by rw [e2];omega
  show Lib.parseUintM (2 ^ 64 - 1) acc (UInt8.ofNat c.toNat :: u8s r) = _
  unfold Lib.parseUintM
  rw [if_pos (by rw [e2];omega),h2]
  by_cases c1:1844674407370955162 ≤ acc
  ·rw [if_pos c1,if_neg (by omega)]
  ·rw [if_neg c1]
   by_cases c2:2 ^ 64 - 1 < acc * 10 + (c - 48).toNat
   ·rw [if_pos c2,if_neg (by omega)]
   ·rw [if_neg c2,ih _ hD.tail (by omega)]
theorem pub_all (A:List Int) (hA:Dg A) (h0:A ≠ []):Lib.parseUintB 64 (u8s A) = if dv A ≤ 18446744073709551615 then .ok (dv A) else .range:=by
 unfold Lib.parseUintB
 rw [if_neg (by intro e;exact h0 (by simpa [u8s] using e)),pum_all A 0 hA (by decide),Nat.zero_mul,Nat.zero_add]
theorem pib_all (ng:Bool) (A:List Int) (hA:Dg A) (h0:A ≠ []):Lib.parseIntB 64 (u8s (sgL ng ++ A)) = if inI ng (dv A) = true then .ok (svI ng (dv A)) else .range:=by
 have hu:=pub_all A hA h0
 cases ng
 ·obtain ⟨c,r,rfl⟩:∃ c r,A = c :: r:=by
   cases A with
   | nil => exact absurd rfl h0
   | cons c r => exact ⟨c,r,rfl⟩
  have hc:=hA c (by simp)
  have e2:(UInt8.ofNat c.toNat).toNat = c.toNat:=UInt8.toNat_ofNat_of_lt' (by show _ < 256;omega)
  have hu':Lib.parseUintB 64 (UInt8.ofNat c.toNat :: u8s r) = _:=hu
  show Lib.parseIntB 64 (UInt8.ofNat c.toNat :: u8s r) = _
  unfold Lib.parseIntB
  simp only [e2]
  rw [if_neg (by omega),hu']
  have n45:¬ c.toNat = 45:=by omega
  generalize dv (c :: r) = N
  unfold inI svI
  by_cases h:N ≤ 18446744073709551615
  ·rw [if_pos h]
   simp only [n45,not_false_eq_true,true_and,if_false,false_and,Bool.false_eq_true]
   by_cases h2:N < 9223372036854775808
   ·rw [if_neg (by omega)];simp [h2]
   ·rw [if_pos (by omega)];simp [h2]
  ·rw [if_neg h]
   simp [show ¬ N < 9223372036854775808 by omega]
 ·show Lib.parseIntB 64 (45 :: u8s A) = _
  unfold Lib.parseIntB
  simp only [show (45:UInt8).toNat = 45 from rfl,or_true,if_true]
  rw [hu]
  generalize dv A = N
  unfold inI svI
  by_cases h:N ≤ 18446744073709551615
  ·rw [if_pos h]
   simp only [not_true_eq_false,false_and,if_false,true_and]
   by_cases h2:N ≤ 9223372036854775808
   ·rw [if_neg (by omega)];simp [h2]
   ·rw [if_pos (by omega)];simp [h2]
  ·rw [if_neg h]
   simp [show ¬ N ≤ 9223372036854775808 by omega]
structure NumT (l:List Int) (ng:Bool) (A F:List Int) (E:Option (Int × Option Bool × List Int)):Prop where
 eq:l = sgL ng ++ (A ++ (frL F ++ exA E))
 wh:Wh A
 fr:Dg F
 ex:∀ q,E = some q → (q.1 = 101 ∨ q.1 = 69) ∧ Dg q.2.2 ∧ q.2.2 ≠ []
def isW (ng:Bool) (A F:List Int) (E:Option (Int × Option Bool × List Int)):Prop:=F = [] ∧ E = none ∧ inI ng (dv A) = true
end Go.Proofs.YtdogjghalplohaaGreatDoor.fto
namespace Go.Proofs.YtdogjghalplohaaGreatDoor.fto
open mem
set_option linter.unusedVariables false
set_option linter.unusedSimpArgs false
theorem fold_stay (st:Int) (h:∀ c,digB c = true → stepZ st c = st):∀ X:List Int,Dg X → X.foldl stepZ st = st
 | [],_ => rfl
 | c :: r,hX => by rw [List.foldl_cons,h c hX.head];exact fold_stay st h r hX.tail
theorem fold_dig (st st':Int) (h1:∀ c,digB c = true → stepZ st c = st') (h2:∀ c,digB c = true → stepZ st' c = st') (X:List Int) (hX:Dg X) (h0:X ≠ []):X.foldl stepZ st = st':=by
 cases X with
 | nil => exact absurd rfl h0
 | cons c r => rw [List.foldl_cons,h1 c hX.head];exact fold_stay st' h2 r hX.tail
theorem st_3 (c:Int) (h:digB c = true):stepZ 3 c = 3:=by simp [stepZ,h]
theorem st_4 (c:Int) (h:digB c = true):stepZ 4 c = 5:=by simp [stepZ,h]
theorem st_5 (c:Int) (h:digB c = true):stepZ 5 c = 5:=by simp [stepZ,h]
theorem st_6 (c:Int) (h:digB c = true):stepZ 6 c = 8:=by simp [stepZ,h]
theorem st_7 (c:Int) (h:digB c = true):stepZ 7 c = 8:=by simp [stepZ,h]
theorem st_8 (c:Int) (h:digB c = true):stepZ 8 c = 8:=by simp [stepZ,h]
theorem fold_whole (ng:Bool) (A:List Int) (h:Wh A):(sgL ng ++ A).foldl stepZ 0 = 2 ∨ (sgL ng ++ A).foldl stepZ 0 = 3:=by
 obtain ⟨st,hst,e⟩:∃ st:Int,(st = 0 ∨ st = 1) ∧ (sgL ng).foldl stepZ 0 = st:=by cases ng <;> exact ⟨_,by first | exact Or.inl rfl | exact Or.inr rfl,rfl⟩
 rw [List.foldl_append,e]
 cases A with
 | nil => exact absurd rfl h.ne
 | cons a r =>
  by_cases h48:a = 48
  ·left
   subst h48
   rw [h.one r rfl]
   rcases hst with rfl | rfl <;> decide
  ·right
   have hd:=h.dg.head
   have h2:=digB_not hd
   have e1:stepZ st a = 3:=by
    unfold stepZ
    rw [if_pos hst,if_neg (fun q => h2.1 q.1),if_neg h48,if_pos hd]
   rw [List.foldl_cons,e1]
   exact fold_stay 3 st_3 r h.dg.tail
theorem NumT.num {l:List Int} {ng:Bool} {A F:List Int} {E:Option (Int × Option Bool × List Int)} (h:NumT l ng A F E):formZ (aut l) = if F = [] ∧ E = none then 1 else 2:=by
 obtain ⟨rfl,hA,hF,hE⟩:=h
 unfold aut
 rw [← List.append_assoc,List.foldl_append]
 obtain ⟨st,e,hst⟩:∃ st,(sgL ng ++ A).foldl stepZ 0 = st ∧ (st = 2 ∨ st = 3):=⟨_,rfl,fold_whole ng A hA⟩
 rw [e,List.foldl_append]
 have e2:(frL F).foldl stepZ st = if F = [] then st else 5:=by
  unfold frL
  by_cases h0:F = []
  ·rw [if_pos h0,if_pos h0];rfl
  ·rw [if_neg h0,if_neg h0,List.foldl_cons]
   have:stepZ st 46 = 4:=by rcases hst with rfl | rfl <;> decide
   rw [this]
   exact fold_dig 4 5 st_4 st_5 F hF h0
 rw [e2]
 rcases E with _ | ⟨ec,o,X⟩
 ·by_cases h0:F = []
  ·rw [if_pos h0,if_pos ⟨h0,rfl⟩]
   show formZ st = 1
   unfold formZ
   rw [if_pos hst]
  ·rw [if_neg h0,if_neg (fun q => h0 q.1)];rfl
 ·obtain ⟨q1,q2,q3⟩:=hE _ rfl
  have e5:(if F = [] ∧ (some (ec,o,X):Option (Int × Option Bool × List Int)) = none then (1:Int) else 2) = 2:=if_neg (fun q => by simp at q)
  rw [e5]
  have e3:stepZ (if F = [] then st else 5) ec = 6:=by
   by_cases h0:F = []
   ·rw [if_pos h0]
    rcases hst with rfl | rfl <;> rcases q1 with h | h <;> simp only at h <;> subst h <;> decide
   ·rw [if_neg h0]
    rcases q1 with h | h <;> simp only at h <;> subst h <;> decide
  show formZ (((ec :: (sg3 o ++ X)).foldl stepZ _)) = 2
  rw [List.foldl_cons,e3,List.foldl_append]
  have e4:X.foldl stepZ ((sg3 o).foldl stepZ 6) = 8:=by
   rcases o with _ | _ | _
   ·exact fold_dig 6 8 st_6 st_8 X q2 q3
   ·exact fold_dig 7 8 st_7 st_8 X q2 q3
   ·exact fold_dig 7 8 st_7 st_8 X q2 q3
  rw [e4];rfl
end Go.Proofs.YtdogjghalplohaaGreatDoor.fto
