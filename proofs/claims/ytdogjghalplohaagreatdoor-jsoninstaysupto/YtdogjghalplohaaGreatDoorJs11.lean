import Derived.Test.YtdogjghalplohaaGreatDoorJs10
import Derived.Test.YtdogjghalplohaaGreatDoorRows
namespace Go.Proofs.YtdogjghalplohaaGreatDoor.jin
open Go.ChangeShapes Go.WideShapes Go.ChangeAt Go.RowKit
open mem Go.Maps
open vl (Vl Vls Fls VlC VlsAt FlsAt Row8)
open ints (hide unhide hexV)
set_option linter.unusedVariables false
set_option linter.unusedSimpArgs false
def numV (k i:Int) (fl:Nat):Vl:=.mk k false i fl ⟨#[]⟩ ⟨#[]⟩ .nil .nil
def num8 (k i:Int) (fl:Nat):List Value:=[.int .i64 k,.bool false,.int .i64 i,.float .f64 fl,.string ⟨#[]⟩,.string ⟨#[]⟩,.slice none 0 0,.slice none 0 0]
theorem num_val (u:World) (k i:Int) (fl:Nat) (hk:(Lit.int .i64 k).wf = true) (hi:(Lit.int .i64 i).wf = true):VlC u (numV k i fl) (num8 k i fl):=by
  unfold numV VlC
  exact ⟨none,0,0,none,0,0,rfl,by unfold VlsAt;rfl,by unfold FlsAt;rfl,Nat.le_refl _,Nat.le_refl _,fun _ => rfl,fun _ => rfl,hk,hi,Nat.zero_le _,Nat.zero_le _,Nat.zero_le _,Nat.zero_le _⟩
/-- a number: what Prefix answers (e,s,f) and Read (k,i,fl,er) -/
def numF (q e s:Nat) (f k i:Int) (fl:Nat) (er:Int):Except (Nat × Int) (Vl × Nat):=
  if f = 0 ∨ e < s then .error (s,50) else if er = 0 then .ok (numV k i fl,e) else .error (q,er)
section
variable {R:Nat} {a:Option Addr} {n c:Nat} {Z:List Int} {q room:Nat} {w:World}
set_option maxHeartbeats 8000000 in
set_option maxRecDepth 100000 in
theorem number_ok (e s:Nat) (f:Int) (h1:q ≤ e) (h2:e ≤ s) (h3:s ≤ n)
    (hP:∀ u,Kp R w u → Rs R a n c Z q room u → Calls Tryz.prog 32 #[.slice a n c,.int .i64 q] u fun x u' => x = .returned (.tuple #[.int .i64 e,.int .i64 s,.int .i64 f]) ∧ Below u.heap.size u u')
    (k i:Int) (fl:Nat) (er:Int) (hk:(Lit.int .i64 k).wf = true) (hi:(Lit.int .i64 i).wf = true)
    (hD:¬ (f = 0 ∨ e < s) → ∀ u,Kp R w u → Calls Tryz.prog 16 #[.string (strOfNums (pcZ Z q e))] u fun x u' => x = .returned (.tuple #[.agg #[.int .i64 k,.int .i64 i,.float .f64 fl],.int .i64 er]) ∧ Below u.heap.size u u')
    (hR:Rs R a n c Z q room w):Calls Tryz.prog 82 #[.pointer (some ⟨R,0,none⟩)] w (RvP R a n c Z room w (numF q e s f k i fl er)):=by
  have hlt:=hR.lt
  have hle:=hR.le
  have hfit:=hR.fits
  have hlc:=hR.row.le
  obtain ⟨P,hPP⟩:∃ P,P = RvP R a n c Z room w (numF q e s f k i fl er):=⟨_,rfl⟩
  rw [← hPP]
  have HP:=hide hPP
  have HR:=hide hR
  have HX:=hide hP
  have HD:=hide hD
  have hsf:=storeFJ
  have i8:=hide (show (Tryz.prog.info? 29).map (·.size) = some 8 from vl.infoV)
  have HW:=hide (show Below w.heap.size w (w.alloc (.cells #[.int .i64 0,.bool false,.int .i64 0,.float .f64 0,.string { data:=#[] },.string { data:=#[] },.slice none 0 0,.slice none 0 0] 29)) ∧ (w.alloc (.cells #[.int .i64 0,.bool false,.int .i64 0,.float .f64 0,.string { data:=#[] },.string { data:=#[] },.slice none 0 0,.slice none 0 0] 29)).heap[w.heap.size]? = some (.cells z8.toArray 29 (0,0)) ∧ (w.alloc (.cells #[.int .i64 0,.bool false,.int .i64 0,.float .f64 0,.string { data:=#[] },.string { data:=#[] },.slice none 0 0,.slice none 0 0] 29)).heap.size = w.heap.size + 1 from ⟨(Below.refl _ _).alloc (Nat.le_refl _) _,heapNew _ _,by simp⟩)
  clear hPP hR hP hD
  go_enter Tryz.func82,Tryz.ntmps82
  go_wp2_with fail
  obtain ⟨X,eX⟩:∃ X:World,X = { w.alloc (.cells #[.int .i64 0,.bool false,.int .i64 0,.float .f64 0,.string { data:=#[] },.string { data:=#[] },.slice none 0 0,.slice none 0 0] 29) with drawn:=(w.alloc (.cells #[.int .i64 0,.bool false,.int .i64 0,.float .f64 0,.string { data:=#[] },.string { data:=#[] },.slice none 0 0,.slice none 0 0] 29)).drawn + 1 }:=⟨_,rfl⟩
  have hX:Below w.heap.size w X ∧ X.heap[w.heap.size]? = some (.cells z8.toArray 29 (0,0)):=by rw [eX];exact ⟨(unhide HW).1.drew,(unhide HW).2.1⟩
  refine wp_region_held (S:=fun u => Kp R w u ∧ Rs R a n c Z q room u ∧ u.heap[w.heap.size]? = some (.cells z8.toArray 29 (0,0))) mixedJ ?_
  rw [← eX]
  clear eX
  have hS0:Kp R w X ∧ Rs R a n c Z q room X ∧ X.heap[w.heap.size]? = some (.cells z8.toArray 29 (0,0)):=⟨Kp.of hX.1,(unhide HR).below hX.1,hX.2⟩
  refine rgn.tl (i:=0) (v:=?v1) rfl (by kernel_rfl) (fun _ _ _ h => h) (by rfl) ?hy1 hS0 ?_
  case hy1 => (intro w' hw';  go_simp;try with_reducible rfl)
  simp only [zA,zB,zC,Act.put,zD,zE,zF]
  refine rgn.tl (i:=1) (v:=?v2) rfl (by kernel_rfl) (fun _ _ _ h => h) (by rfl) ?hy2 hS0 ?_
  case hy2 => (intro w' hw';  go_simp;try with_reducible rfl)
  simp only [zA,zB,zC,Act.put,zD,zE,zF]
  refine rgn.tl (i:=2) (v:=?v3) rfl (by kernel_rfl) (fun _ _ _ h => h) (by rfl) ?hy3 hS0 ?_
  case hy3 => (intro w' hw';  go_simp;try with_reducible rfl)
  simp only [zA,zB,zC,Act.put,zD,zE,zF]
  refine rgn.tl (i:=3) (v:=?v4) rfl (by kernel_rfl) (fun _ _ _ h => h) (by rfl) ?hy4 hS0 ?_
  case hy4 => (intro w' hw';have c0:=hw'.2.1.c0;go_simp;try with_reducible rfl)
  simp only [zA,zB,zC,Act.put,zD,zE,zF]
  refine rgn.tl (i:=4) (v:=?v5) rfl (by kernel_rfl) (fun _ _ _ h => h) (by rfl) ?hy5 hS0 ?_
  case hy5 => (intro w' hw';  go_simp;try with_reducible rfl)
  simp only [zA,zB,zC,Act.put,zD,zE,zF]
  refine rgn.tl (i:=5) (v:=?v6) rfl (by kernel_rfl) (fun _ _ _ h => h) (by rfl) ?hy6 hS0 ?_
  case hy6 => (intro w' hw';  go_simp;try with_reducible rfl)
  simp only [zA,zB,zC,Act.put,zD,zE,zF]
  refine rgn.tl (i:=6) (v:=?v7) rfl (by kernel_rfl) (fun _ _ _ h => h) (by rfl) ?hy7 hS0 ?_
  case hy7 => (intro w' hw';  go_simp;try with_reducible rfl)
  simp only [zA,zB,zC,Act.put,zD,zE,zF]
  refine rgn.tl (i:=7) (v:=?v8) rfl (by kernel_rfl) (fun _ _ _ h => h) (by rfl) ?hy8 hS0 ?_
  case hy8 => (intro w' hw';have c1:=hw'.2.1.c1;go_simp;try with_reducible rfl)
  simp only [zA,zB,zC,Act.put,zD,zE,zF]
  refine rgn.one (i:=8) _ rfl (by kernel_rfl) (by rfl) ?_
  try simp only [zA,zB,zC,Act.put,zD,zE,zF]
  go_wp2_with fail
  refine (unhide HX X hS0.1 hS0.2.1).mono ?_
  rintro x Y ⟨rfl,bY⟩
  have hS1:Kp R w Y ∧ Rs R a n c Z q room Y ∧ Y.heap[w.heap.size]? = some (.cells z8.toArray 29 (0,0)):=⟨hS0.1.below bY,hS0.2.1.below bY,(bY.block _ (Array.getElem?_eq_some_iff.1 hS0.2.2).1).trans hS0.2.2⟩
  clear hS0 hX bY
  refine ⟨hS1,?_⟩
  try simp only [zA,zB,zC,Act.put,zD,zE,zF]
  have hS0:=hS1
  refine rgn.tl (i:=9) (v:=?v9) rfl (by kernel_rfl) (fun _ _ _ h => h) (by rfl) ?hy9 hS0 ?_
  case hy9 => (intro w' hw';  go_simp;try with_reducible rfl)
  simp only [zA,zB,zC,Act.put,zD,zE,zF]
  refine rgn.tl (i:=10) (v:=?v10) rfl (by kernel_rfl) (fun _ _ _ h => h) (by rfl) ?hy10 hS0 ?_
  case hy10 => (intro w' hw';  go_simp;try with_reducible rfl)
  simp only [zA,zB,zC,Act.put,zD,zE,zF]
  refine rgn.tl (i:=11) (v:=?v11) rfl (by kernel_rfl) (fun _ _ _ h => h) (by rfl) ?hy11 hS0 ?_
  case hy11 => (intro w' hw';  go_simp;try with_reducible rfl)
  simp only [zA,zB,zC,Act.put,zD,zE,zF]
  refine rgn.tl (i:=12) (v:=?v12) rfl (by kernel_rfl) (fun _ _ _ h => h) (by rfl) ?hy12 hS0 ?_
  case hy12 => (intro w' hw';  go_simp;try with_reducible rfl)
  simp only [zA,zB,zC,Act.put,zD,zE,zF]
  refine rgn.tl (i:=13) (v:=?v13) rfl (by kernel_rfl) (fun _ _ _ h => h) (by rfl) ?hy13 hS0 ?_
  case hy13 => (intro w' hw';  go_simp;try with_reducible rfl)
  simp only [zA,zB,zC,Act.put,zD,zE,zF]
  refine rgn.tl (i:=14) (v:=?v14) rfl (by kernel_rfl) (fun _ _ _ h => h) (by rfl) ?hy14 hS0 ?_
  case hy14 => (intro w' hw';  go_simp;try with_reducible rfl)
  simp only [zA,zB,zC,Act.put,zD,zE,zF]
  refine rgn.tl (i:=15) (v:=?v15) rfl (by kernel_rfl) (fun _ _ _ h => h) (by rfl) ?hy15 hS0 ?_
  case hy15 => (intro w' hw';  go_simp;try with_reducible rfl)
  simp only [zA,zB,zC,Act.put,zD,zE,zF]
  refine wpAnyH_done (by kernel_rfl) ?_ _
  by_cases hf:f = 0
  · subst hf
    have KF:=hide hS1.1
    clear hS0 hS1
    go_wp2_with fail
    refine (refuse_ok s 50 Y).mono ?_
    rintro x u ⟨rfl,rfl⟩
    go_wp2
    exact ⟨rfl,by rw [unhide HP];unfold numF;rw [if_pos (.inl rfl)];exact ⟨rfl,unhide KF⟩⟩
  by_cases hes:e < s
  · have j1:(e:Int) < (s:Int):=by omega
    have KF:=hide hS1.1
    clear hS0 hS1
    go_wp2_with fail
    refine (refuse_ok s 50 _).mono ?_
    rintro x u ⟨rfl,rfl⟩
    go_wp2
    exact ⟨rfl,by rw [unhide HP];unfold numF;rw [if_pos (.inr hes)];exact ⟨rfl,unhide KF⟩⟩
  have j1:¬ (e:Int) < (s:Int):=by omega
  have HD2:=hide (unhide HD (fun h => h.elim hf hes))
  have HS1:=hide hS1
  clear hS0 hS1 HD HX
  go_wp2_with fail
  obtain ⟨X2,eX⟩:∃ X:World,X = { Y with drawn:=Y.drawn + 1 }:=⟨_,rfl⟩
  have hS0:Kp R w X2 ∧ Rs R a n c Z q room X2 ∧ X2.heap[w.heap.size]? = some (.cells z8.toArray 29 (0,0)):=by rw [eX];exact ⟨(unhide HS1).1.below (Below.refl _ _).drew,(unhide HS1).2.1.below (Below.refl _ _).drew,(unhide HS1).2.2⟩
  refine wp_region_held (S:=fun u => Kp R w u ∧ Rs R a n c Z q room u ∧ u.heap[w.heap.size]? = some (.cells z8.toArray 29 (0,0))) mixedJ ?_
  rw [← eX]
  clear eX
  have i1:(0:Int) ≤ (q:Int):=by omega
  have i2:(q:Int) ≤ (e:Int):=by omega
  have i3:(e:Int) ≤ (c:Int):=by omega
  refine rgn.tl (i:=0) (v:=?v16) rfl (by kernel_rfl) (fun _ _ _ h => h) (by rfl) ?hy16 hS0 ?_
  case hy16 => (intro w' hw';  go_simp;try with_reducible rfl)
  simp only [zA,zB,zC,Act.put,zD,zE,zF]
  refine rgn.tl (i:=1) (v:=?v17) rfl (by kernel_rfl) (fun _ _ _ h => h) (by rfl) ?hy17 hS0 ?_
  case hy17 => (intro w' hw';  go_simp;try with_reducible rfl)
  simp only [zA,zB,zC,Act.put,zD,zE,zF]
  refine rgn.tl (i:=2) (v:=?v18) rfl (by kernel_rfl) (fun _ _ _ h => h) (by rfl) ?hy18 hS0 ?_
  case hy18 => (intro w' hw';  go_simp;try with_reducible rfl)
  simp only [zA,zB,zC,Act.put,zD,zE,zF]
  refine rgn.tl (i:=3) (v:=?v19) rfl (by kernel_rfl) (fun _ _ _ h => h) (by rfl) ?hy19 hS0 ?_
  case hy19 => (intro w' hw';have c0:=hw'.2.1.c0;go_simp;try with_reducible rfl)
  simp only [zA,zB,zC,Act.put,zD,zE,zF]
  refine rgn.tl (i:=4) (v:=?v20) rfl (by kernel_rfl) (fun _ _ _ h => h) (by rfl) ?hy20 hS0 ?_
  case hy20 => (intro w' hw';  go_simp;try with_reducible rfl)
  simp only [zA,zB,zC,Act.put,zD,zE,zF]
  refine rgn.tl (i:=5) (v:=?v21) rfl (by kernel_rfl) (fun _ _ _ h => h) (by rfl) ?hy21 hS0 ?_
  case hy21 => (intro w' hw';  go_simp;try with_reducible rfl)
  simp only [zA,zB,zC,Act.put,zD,zE,zF]
  refine rgn.tl (i:=6) (v:=?v22) rfl (by kernel_rfl) (fun _ _ _ h => h) (by rfl) ?hy22 hS0 ?_
  case hy22 => (intro w' hw';  go_simp;try with_reducible rfl)
  simp only [zA,zB,zC,Act.put,zD,zE,zF]
  refine rgn.tl (i:=7) (v:=?v23) rfl (by kernel_rfl) (fun _ _ _ h => h) (by rfl) ?hy23 hS0 ?_
  case hy23 => (intro w' hw';have c1:=hw'.2.1.c1;go_simp;try with_reducible rfl)
  simp only [zA,zB,zC,Act.put,zD,zE,zF]
  refine rgn.tl (i:=8) (v:=?v24) rfl (by kernel_rfl) (fun _ _ _ h => h) (by rfl) ?hy24 hS0 ?_
  case hy24 => (intro w' hw';  go_simp;try with_reducible rfl)
  simp only [zA,zB,zC,Act.put,zD,zE,zF]
  refine rgn.tl (i:=9) (v:=?v25) rfl (by kernel_rfl) (fun _ _ _ h => h) (by rfl) ?hy25 hS0 ?_
  case hy25 => (intro w' hw';  go_simp;try with_reducible rfl)
  simp only [zA,zB,zC,Act.put,zD,zE,zF]
  refine rgn.tl (i:=10) (v:=?v26) rfl (by kernel_rfl) (fun _ _ _ h => h) (by rfl) ?hy26 hS0 ?_
  case hy26 => (intro w' hw';have ct:=pc_str hw'.2.1.row h1 (show e ≤ n by omega);go_simp;try with_reducible rfl)
  simp only [zA,zB,zC,Act.put,zD,zE,zF]
  generalize hsa:(if c = q then a else Option.map (fun x => x.add q) a) = sa
  clear hsa
  refine rgn.two (i:=11) (j:=15) _ _ rfl rfl (by kernel_rfl) (by rfl) (by rfl) ?_ ?_
  · try simp only [zA,zB,zC,Act.put,zD,zE,zF]
    go_wp2_with fail
    refine (unhide HD2 X2 hS0.1).mono ?_
    rintro x U ⟨rfl,bU⟩
    have hS1:Kp R w U ∧ Rs R a n c Z q room U ∧ U.heap[w.heap.size]? = some (.cells z8.toArray 29 (0,0)):=⟨hS0.1.below bU,hS0.2.1.below bU,(bU.block _ (Array.getElem?_eq_some_iff.1 hS0.2.2).1).trans hS0.2.2⟩
    clear hS0
    refine ⟨hS1,?_⟩
    try simp only [zA,zB,zC,Act.put,zD,zE,zF]
    have hS0:=hS1
    refine rgn.tl (i:=12) (v:=?v27) rfl (by kernel_rfl) (fun _ _ _ h => h) (by rfl) ?hy27 hS0 ?_
    case hy27 => (intro w' hw';  go_simp;try with_reducible rfl)
    simp only [zA,zB,zC,Act.put,zD,zE,zF]
    refine rgn.tl (i:=13) (v:=?v28) rfl (by kernel_rfl) (fun _ _ _ h => h) (by rfl) ?hy28 hS0 ?_
    case hy28 => (intro w' hw';  go_simp;try with_reducible rfl)
    simp only [zA,zB,zC,Act.put,zD,zE,zF]
    refine rgn.tl (i:=14) (v:=?v29) rfl (by kernel_rfl) (fun _ _ _ h => h) (by rfl) ?hy29 hS0 ?_
    case hy29 => (intro w' hw';  go_simp;try with_reducible rfl)
    simp only [zA,zB,zC,Act.put,zD,zE,zF]
    refine rgn.one (i:=15) _ rfl (by kernel_rfl) (by rfl) ?_
    try simp only [zA,zB,zC,Act.put,zD,zE,zF]
    go_wp2_with fail
    obtain ⟨V,eV⟩:∃ V,V = U.alloc (.cells #[.int .i64 0,.int .i64 0,.float .f64 0] 46):=⟨_,rfl⟩
    have bV:Below U.heap.size U V:=by rw [eV];exact (Below.refl _ _).alloc (Nat.le_refl _) _
    have hN:V.heap[U.heap.size]? = some (.cells #[.int .i64 0,.int .i64 0,.float .f64 0] 46 (0,0)):=by rw [eV];exact heapNew _ _
    rw [← eV]
    clear eV
    obtain ⟨bn,hbn⟩:∃ b,b = U.heap.size:=⟨_,rfl⟩
    rw [← hbn] at hN ⊢
    have hbw:w.heap.size < bn:=by have:=(Array.getElem?_eq_some_iff.1 hS0.2.2).1;omega
    have hS2:Kp R w V ∧ Rs R a n c Z q room V ∧ V.heap[w.heap.size]? = some (.cells z8.toArray 29 (0,0)):=⟨hS0.1.below bV,hS0.2.1.below bV,(bV.block _ (Array.getElem?_eq_some_iff.1 hS0.2.2).1).trans hS0.2.2⟩
    clear hS0 bV hbn
    refine ⟨hS2,?_⟩
    try simp only [zA,zB,zC,Act.put,zD,zE,zF]
    have hS0:=hS2
    have th:V.there bn 0 ([.int .i64 k,.int .i64 i,.float .f64 fl]:List Value).toArray.size:=fun j hj => by
      have h1:j < 3:=hj
      refine ⟨?_,Lib.frozen_of_heap hN _⟩
      rw [Lib.cell_of_heap hN]
      rcases (by omega:j = 0 ∨ j = 1 ∨ j = 2) with rfl | rfl | rfl <;> rfl
    have sm:=World.rangeAt_setCells_same V bn 0 [.int .i64 k,.int .i64 i,.float .f64 fl] (by simpa using th)
    have bV:Below w.heap.size V (V.setCells bn 0 [.int .i64 k,.int .i64 i,.float .f64 fl]):=vl.below_setCells _ _ _ _ (Below.refl _ _) (by omega)
    have K5:=hS0.1.low bV
    have R5:Rs R a n c Z q room (V.setCells bn 0 [.int .i64 k,.int .i64 i,.float .f64 fl]):=(unhide HR).at_ hS0.2.1 K5 (heapSet bn R (by omega) [.int .i64 k,.int .i64 i,.float .f64 fl] 0 V)
    have Z5:(V.setCells bn 0 [.int .i64 k,.int .i64 i,.float .f64 fl]).heap[w.heap.size]? = some (.cells z8.toArray 29 (0,0)):=(heapSet bn w.heap.size (by omega) [.int .i64 k,.int .i64 i,.float .f64 fl] 0 V).trans hS0.2.2
    refine rgn.one (i:=16) _ rfl (by kernel_rfl) (by rfl) ?_
    try simp only [zA,zB,zC,Act.put,zD,zE,zF]
    refine wp_store_mid 46 _ _ (by rfl) bn 0 ([.int .i64 k,.int .i64 i,.float .f64 fl]:List Value).toArray (by rfl) (by rfl) th (by kernel_rfl) (by simp [Value.oneCell']) ?_
    rw [show ([.int .i64 k,.int .i64 i,.float .f64 fl]:List Value).toArray.toList = [.int .i64 k,.int .i64 i,.float .f64 fl] from rfl]
    obtain ⟨U5,eU⟩:∃ U,U = V.setCells bn 0 [.int .i64 k,.int .i64 i,.float .f64 fl]:=⟨_,rfl⟩
    rw [← eU] at sm K5 R5 Z5 ⊢
    clear eU th bV hN hS0
    try clear hS1
    try clear hS2
    refine ⟨⟨K5,R5,Z5⟩,?_⟩
    try simp only [zA,zB,zC,Act.put,zD,zE,zF]
    have hS0:=And.intro K5 (And.intro R5 Z5)
    refine rgn.tl (i:=17) (v:=?v30) rfl (by kernel_rfl) (fun _ _ _ h => h) (by rfl) ?hy30 hS0 ?_
    case hy30 => (intro w' hw';  go_simp;try with_reducible rfl)
    simp only [zA,zB,zC,Act.put,zD,zE,zF]
    refine wpAnyH_done (by kernel_rfl) ?_ _
    have c1:=R5.c1
    have z1:=R5.z 1
    by_cases her:er = 0
    · subst her
      have d0:(U5.setCell ⟨R,1,none⟩ (.int .i64 e)).cell? ⟨bn,0,none⟩ = some (.int .i64 k):=(World.cell?_setCell_other _ _ _ _ (by simp)).trans (sm 0 _ rfl)
      have d1:(U5.setCell ⟨R,1,none⟩ (.int .i64 e)).cell? ⟨bn,1,none⟩ = some (.int .i64 i):=(World.cell?_setCell_other _ _ _ _ (by simp)).trans (sm 1 _ rfl)
      have d2:(U5.setCell ⟨R,1,none⟩ (.int .i64 e)).cell? ⟨bn,2,none⟩ = some (.float .f64 fl):=(World.cell?_setCell_other _ _ _ _ (by simp)).trans (sm 2 _ rfl)
      obtain ⟨U6,eU6⟩:∃ U,U5.setCell ⟨R,1,none⟩ (.int .i64 e) = U:=⟨_,rfl⟩
      have z6:U6.heap[w.heap.size]? = some (.cells z8.toArray 29 (0,0)):=by rw [← eU6];exact (Below.heap_setCell U5 ⟨R,1,none⟩ _ w.heap.size (by show w.heap.size ≠ R;omega)).trans Z5
      have K6:Kp R w U6:=by rw [← eU6];exact K5.setCell 1 _
      have R6:Rs R a n c Z e room U6:=by rw [← eU6];exact R5.setQ e (by omega)
      obtain ⟨th,sm2,one,l8,fin⟩:=val_end (v:=numV k i fl) (cs:=num8 k i fl) (unhide HR) K6 R6 z6 (fun u _ _ => num_val u k i fl hk hi)
      rw [eU6] at d0 d1 d2
      have E6:=hide eU6
      have TH:=hide th
      have SM:=hide sm2
      have FIN:=hide fin
      have i8a:=hide (show (Tryz.prog.info? 29).map (·.size) = some (num8 k i fl).toArray.size from unhide i8)
      have i8b:(Tryz.prog.info? 29).map (·.size) = some (num8 k i fl).length:=unhide i8
      clear th sm2 fin eU6 z6 K6 R6 K5 R5 Z5 hS0 sm HS1 HD2 HW
      go_wp2_with (first
        | (rw [unhide E6])
        | (refine wpList_store_mid (by rfl) 29 _ _ (by rfl) w.heap.size 0 (num8 k i fl).toArray (by rfl) (by rfl) (unhide TH) (unhide i8a) one ?_))
      try rw [show (num8 k i fl).toArray.toList = num8 k i fl from rfl]
      refine bodyPost_ret (rgn.result_row rfl _ _ w.heap.size 0 (num8 k i fl) _ rfl (unhide SM) Tryz.underlying29 rfl i8b) rfl ?_
      rw [unhide HP,show numF q e s f k i fl 0 = .ok (numV k i fl,e) by unfold numF;rw [if_neg (fun h => h.elim hf hes),if_pos rfl]]
      exact unhide FIN
    · have KF:=hide K5
      clear K5 R5 Z5 hS0 sm
      go_wp2_with fail
      refine (refuse_ok q er U5).mono ?_
      rintro x u ⟨rfl,rfl⟩
      go_wp2
      exact ⟨rfl,by rw [unhide HP];unfold numF;rw [if_neg (fun h => h.elim hf hes),if_neg her];exact ⟨rfl,unhide KF⟩⟩
  · try simp only [zA,zB,zC,Act.put,zD,zE,zF]
    go_wp2_with fail
    obtain ⟨W1,eV⟩:∃ V,V = X2.alloc (.cells #[.int .i64 0,.int .i64 0,.float .f64 0] 46):=⟨_,rfl⟩
    have bV:Below X2.heap.size X2 W1:=by rw [eV];exact (Below.refl _ _).alloc (Nat.le_refl _) _
    have hN:W1.heap[X2.heap.size]? = some (.cells #[.int .i64 0,.int .i64 0,.float .f64 0] 46 (0,0)):=by rw [eV];exact heapNew _ _
    rw [← eV]
    clear eV
    obtain ⟨bn,hbn⟩:∃ b,b = X2.heap.size:=⟨_,rfl⟩
    rw [← hbn] at hN ⊢
    have hbw:w.heap.size < bn:=by have:=(Array.getElem?_eq_some_iff.1 hS0.2.2).1;omega
    have hS2:Kp R w W1 ∧ Rs R a n c Z q room W1 ∧ W1.heap[w.heap.size]? = some (.cells z8.toArray 29 (0,0)):=⟨hS0.1.below bV,hS0.2.1.below bV,(bV.block _ (Array.getElem?_eq_some_iff.1 hS0.2.2).1).trans hS0.2.2⟩
    clear hS0 bV hbn
    refine ⟨hS2,?_⟩
    try simp only [zA,zB,zC,Act.put,zD,zE,zF]
    have hS0:=hS2
    refine rgn.one (i:=11) _ rfl (by kernel_rfl) (by rfl) ?_
    try simp only [zA,zB,zC,Act.put,zD,zE,zF]
    go_wp2_with fail
    refine (unhide HD2 W1 hS0.1).mono ?_
    rintro x V ⟨rfl,bU⟩
    have hS1:Kp R w V ∧ Rs R a n c Z q room V ∧ V.heap[w.heap.size]? = some (.cells z8.toArray 29 (0,0)):=⟨hS0.1.below bU,hS0.2.1.below bU,(bU.block _ (Array.getElem?_eq_some_iff.1 hS0.2.2).1).trans hS0.2.2⟩
    have hN:=(bU.block _ (Array.getElem?_eq_some_iff.1 hN).1).trans hN
    clear hS0
    refine ⟨hS1,?_⟩
    try simp only [zA,zB,zC,Act.put,zD,zE,zF]
    have hS0:=hS1
    refine rgn.tl (i:=12) (v:=?v31) rfl (by kernel_rfl) (fun _ _ _ h => h) (by rfl) ?hy31 hS0 ?_
    case hy31 => (intro w' hw';  go_simp;try with_reducible rfl)
    simp only [zA,zB,zC,Act.put,zD,zE,zF]
    refine rgn.tl (i:=13) (v:=?v32) rfl (by kernel_rfl) (fun _ _ _ h => h) (by rfl) ?hy32 hS0 ?_
    case hy32 => (intro w' hw';  go_simp;try with_reducible rfl)
    simp only [zA,zB,zC,Act.put,zD,zE,zF]
    refine rgn.tl (i:=14) (v:=?v33) rfl (by kernel_rfl) (fun _ _ _ h => h) (by rfl) ?hy33 hS0 ?_
    case hy33 => (intro w' hw';  go_simp;try with_reducible rfl)
    simp only [zA,zB,zC,Act.put,zD,zE,zF]
    have th:V.there bn 0 ([.int .i64 k,.int .i64 i,.float .f64 fl]:List Value).toArray.size:=fun j hj => by
      have h1:j < 3:=hj
      refine ⟨?_,Lib.frozen_of_heap hN _⟩
      rw [Lib.cell_of_heap hN]
      rcases (by omega:j = 0 ∨ j = 1 ∨ j = 2) with rfl | rfl | rfl <;> rfl
    have sm:=World.rangeAt_setCells_same V bn 0 [.int .i64 k,.int .i64 i,.float .f64 fl] (by simpa using th)
    have bV:Below w.heap.size V (V.setCells bn 0 [.int .i64 k,.int .i64 i,.float .f64 fl]):=vl.below_setCells _ _ _ _ (Below.refl _ _) (by omega)
    have K5:=hS0.1.low bV
    have R5:Rs R a n c Z q room (V.setCells bn 0 [.int .i64 k,.int .i64 i,.float .f64 fl]):=(unhide HR).at_ hS0.2.1 K5 (heapSet bn R (by omega) [.int .i64 k,.int .i64 i,.float .f64 fl] 0 V)
    have Z5:(V.setCells bn 0 [.int .i64 k,.int .i64 i,.float .f64 fl]).heap[w.heap.size]? = some (.cells z8.toArray 29 (0,0)):=(heapSet bn w.heap.size (by omega) [.int .i64 k,.int .i64 i,.float .f64 fl] 0 V).trans hS0.2.2
    refine rgn.one (i:=16) _ rfl (by kernel_rfl) (by rfl) ?_
    try simp only [zA,zB,zC,Act.put,zD,zE,zF]
    refine wp_store_mid 46 _ _ (by rfl) bn 0 ([.int .i64 k,.int .i64 i,.float .f64 fl]:List Value).toArray (by rfl) (by rfl) th (by kernel_rfl) (by simp [Value.oneCell']) ?_
    rw [show ([.int .i64 k,.int .i64 i,.float .f64 fl]:List Value).toArray.toList = [.int .i64 k,.int .i64 i,.float .f64 fl] from rfl]
    obtain ⟨U5,eU⟩:∃ U,U = V.setCells bn 0 [.int .i64 k,.int .i64 i,.float .f64 fl]:=⟨_,rfl⟩
    rw [← eU] at sm K5 R5 Z5 ⊢
    clear eU th bV hN hS0
    try clear hS1
    try clear hS2
    refine ⟨⟨K5,R5,Z5⟩,?_⟩
    try simp only [zA,zB,zC,Act.put,zD,zE,zF]
    have hS0:=And.intro K5 (And.intro R5 Z5)
    refine rgn.tl (i:=17) (v:=?v34) rfl (by kernel_rfl) (fun _ _ _ h => h) (by rfl) ?hy34 hS0 ?_
    case hy34 => (intro w' hw';  go_simp;try with_reducible rfl)
    simp only [zA,zB,zC,Act.put,zD,zE,zF]
    refine wpAnyH_done (by kernel_rfl) ?_ _
    have c1:=R5.c1
    have z1:=R5.z 1
    by_cases her:er = 0
    · subst her
      have d0:(U5.setCell ⟨R,1,none⟩ (.int .i64 e)).cell? ⟨bn,0,none⟩ = some (.int .i64 k):=(World.cell?_setCell_other _ _ _ _ (by simp)).trans (sm 0 _ rfl)
      have d1:(U5.setCell ⟨R,1,none⟩ (.int .i64 e)).cell? ⟨bn,1,none⟩ = some (.int .i64 i):=(World.cell?_setCell_other _ _ _ _ (by simp)).trans (sm 1 _ rfl)
      have d2:(U5.setCell ⟨R,1,none⟩ (.int .i64 e)).cell? ⟨bn,2,none⟩ = some (.float .f64 fl):=(World.cell?_setCell_other _ _ _ _ (by simp)).trans (sm 2 _ rfl)
      obtain ⟨U6,eU6⟩:∃ U,U5.setCell ⟨R,1,none⟩ (.int .i64 e) = U:=⟨_,rfl⟩
      have z6:U6.heap[w.heap.size]? = some (.cells z8.toArray 29 (0,0)):=by rw [← eU6];exact (Below.heap_setCell U5 ⟨R,1,none⟩ _ w.heap.size (by show w.heap.size ≠ R;omega)).trans Z5
      have K6:Kp R w U6:=by rw [← eU6];exact K5.setCell 1 _
      have R6:Rs R a n c Z e room U6:=by rw [← eU6];exact R5.setQ e (by omega)
      obtain ⟨th,sm2,one,l8,fin⟩:=val_end (v:=numV k i fl) (cs:=num8 k i fl) (unhide HR) K6 R6 z6 (fun u _ _ => num_val u k i fl hk hi)
      rw [eU6] at d0 d1 d2
      have E6:=hide eU6
      have TH:=hide th
      have SM:=hide sm2
      have FIN:=hide fin
      have i8a:=hide (show (Tryz.prog.info? 29).map (·.size) = some (num8 k i fl).toArray.size from unhide i8)
      have i8b:(Tryz.prog.info? 29).map (·.size) = some (num8 k i fl).length:=unhide i8
      clear th sm2 fin eU6 z6 K6 R6 K5 R5 Z5 hS0 sm HS1 HD2 HW
      go_wp2_with (first
        | (rw [unhide E6])
        | (refine wpList_store_mid (by rfl) 29 _ _ (by rfl) w.heap.size 0 (num8 k i fl).toArray (by rfl) (by rfl) (unhide TH) (unhide i8a) one ?_))
      try rw [show (num8 k i fl).toArray.toList = num8 k i fl from rfl]
      refine bodyPost_ret (rgn.result_row rfl _ _ w.heap.size 0 (num8 k i fl) _ rfl (unhide SM) Tryz.underlying29 rfl i8b) rfl ?_
      rw [unhide HP,show numF q e s f k i fl 0 = .ok (numV k i fl,e) by unfold numF;rw [if_neg (fun h => h.elim hf hes),if_pos rfl]]
      exact unhide FIN
    · have KF:=hide K5
      clear K5 R5 Z5 hS0 sm
      go_wp2_with fail
      refine (refuse_ok q er U5).mono ?_
      rintro x u ⟨rfl,rfl⟩
      go_wp2
      exact ⟨rfl,by rw [unhide HP];unfold numF;rw [if_neg (fun h => h.elim hf hes),if_neg her];exact ⟨rfl,unhide KF⟩⟩
end
end Go.Proofs.YtdogjghalplohaaGreatDoor.jin
namespace Go.Proofs.YtdogjghalplohaaGreatDoor.mem
set_option linter.unusedVariables false
def isAt (l:List Int) (p:Nat) (c:Int):Bool:=decide (p < l.length) && (l.getD p 0 == c)
def digB (c:Int):Bool:=decide (48 ≤ c) && decide (c ≤ 57)
def digAt (l:List Int) (p:Nat):Bool:=decide (p < l.length) && digB (l.getD p 0)
def digsF (l:List Int):Nat → Nat → Nat
 | 0,p => p
 | f + 1,p => if digAt l p then digsF l f (p + 1) else p
def digs (l:List Int) (p:Nat):Nat:=digsF l (l.length - p) p
theorem digAt_lt {l:List Int} {p:Nat} (h:digAt l p = true):p < l.length:=by
 unfold digAt at h
 simp only [Bool.and_eq_true,decide_eq_true_eq] at h
 exact h.1
theorem isAt_lt {l:List Int} {p:Nat} {c:Int} (h:isAt l p c = true):p < l.length:=by
 unfold isAt at h
 simp only [Bool.and_eq_true,decide_eq_true_eq] at h
 exact h.1
theorem digs_yes {l:List Int} {p:Nat} (h:digAt l p = true):digs l p = digs l (p + 1):=by
 have hl:=digAt_lt h
 unfold digs
 rw [show l.length - p = (l.length - (p + 1)) + 1 by omega]
 simp only [digsF,h,if_true]
theorem digs_no {l:List Int} {p:Nat} (h:digAt l p = false):digs l p = p:=by
 unfold digs
 cases l.length - p with
 | zero => rfl
 | succ f => simp only [digsF,h];rfl
theorem digsF_le (l:List Int) (f p:Nat):p ≤ digsF l f p ∧ digsF l f p ≤ p + f:=by
 induction f generalizing p with
 | zero => simp [digsF]
 | succ f ih =>
  simp only [digsF]
  split
  ·have:=ih (p + 1);omega
  ·omega
theorem digs_le (l:List Int) (p:Nat):p ≤ digs l p ∧ (p ≤ l.length → digs l p ≤ l.length):=by
 have:=digsF_le l (l.length - p) p
 unfold digs
 omega
theorem digs_pos {l:List Int} {p:Nat} (h:digAt l p = true):p + 1 ≤ digs l p:=by
 rw [digs_yes h];exact (digs_le l (p + 1)).1
theorem digs_end {l:List Int} {p:Nat}:digAt l (digs l p) = false:=by
 unfold digs
 generalize hf:l.length - p = f
 induction f generalizing p with
 | zero =>
  unfold digsF digAt
  have:¬ p < l.length:=by omega
  simp [this]
 | succ f ih =>
  simp only [digsF]
  cases h:digAt l p
  ·simpa using h
  ·simpa using ih (p:=p + 1) (by omega)
def bWhole (l:List Int) (p:Nat):Nat:=if isAt l p 48 then p + 1 else digs l p
def bPart (l:List Int) (p first:Nat):Nat × Nat:=if first = p then (p,p) else if digs l first = first then (p,digs l first) else (digs l first,digs l first)
def bPoint (l:List Int) (p:Nat):Nat:=if isAt l p 46 then p + 1 else p
def bMark (l:List Int) (p:Nat):Nat:=if isAt l p 101 = false ∧ isAt l p 69 = false then p else if isAt l (p + 1) 43 = true ∨ isAt l (p + 1) 45 = true then p + 2 else p + 1
def pfxFirst (l:List Int) (p:Nat):Nat:=if isAt l p 45 then p + 1 else p
def pfxR (l:List Int) (e:Nat):Nat × Nat:=
 if (bPart l e (bPoint l e)).1 = (bPart l e (bPoint l e)).2 then bPart l (bPart l e (bPoint l e)).1 (bMark l (bPart l e (bPoint l e)).1) else bPart l e (bPoint l e)
def pfx (l:List Int) (p:Nat):Nat × Nat × Int:=
 if bWhole l (pfxFirst l p) = pfxFirst l p then (p,pfxFirst l p,0)
 else ((pfxR l (bWhole l (pfxFirst l p))).1,(pfxR l (bWhole l (pfxFirst l p))).2,if (pfxR l (bWhole l (pfxFirst l p))).1 > bWhole l (pfxFirst l p) then 2 else 1)
def stepZ (st c:Int):Int:=
 if st = 0 ∨ st = 1 then (if c = 45 ∧ st = 0 then 1 else if c = 48 then 2 else if digB c then 3 else -1)
 else if st = 2 ∨ st = 3 then (if digB c ∧ st = 3 then 3 else if c = 46 then 4 else if c = 101 ∨ c = 69 then 6 else -1)
 else if st = 4 then (if digB c then 5 else -1)
 else if st = 5 then (if digB c then 5 else if c = 101 ∨ c = 69 then 6 else -1)
 else if st = 6 then (if digB c then 8 else if c = 43 ∨ c = 45 then 7 else -1)
 else if st = 7 ∨ st = 8 then (if digB c then 8 else -1)
 else -1
def formZ (st:Int):Int:=if st = 2 ∨ st = 3 then 1 else if st = 5 ∨ st = 8 then 2 else 0
def runF (l:List Int):Nat → Int → Nat → Int → Nat → Nat × Nat × Int
 | 0,_,e,f,_ => (e,l.length,f)
 | m + 1,st,e,f,k =>
  if stepZ st (l.getD k 0) < 0 then (e,k,f)
  else if formZ (stepZ st (l.getD k 0)) ≠ 0 then runF l m (stepZ st (l.getD k 0)) (k + 1) (formZ (stepZ st (l.getD k 0))) (k + 1)
  else runF l m (stepZ st (l.getD k 0)) e f (k + 1)
def run (l:List Int) (st:Int) (e:Nat) (f:Int) (k:Nat):Nat × Nat × Int:=runF l (l.length - k) st e f k
theorem run_end {l:List Int} {k:Nat} (h:¬ k < l.length) (st:Int) (e:Nat) (f:Int):run l st e f k = (e,l.length,f):=by
 unfold run
 rw [show l.length - k = 0 by omega]
 rfl
theorem run_bad {l:List Int} {k:Nat} (h:k < l.length) {st:Int} (hs:stepZ st (l.getD k 0) < 0) (e:Nat) (f:Int):run l st e f k = (e,k,f):=by
 unfold run
 rw [show l.length - k = (l.length - (k + 1)) + 1 by omega]
 simp only [runF,hs,if_true]
theorem run_go {l:List Int} {k:Nat} (h:k < l.length) {st s':Int} (hs:stepZ st (l.getD k 0) = s') (h0:0 ≤ s') (hf:formZ s' = 0) (e:Nat) (f:Int):run l st e f k = run l s' e f (k + 1):=by
 unfold run
 rw [show l.length - k = (l.length - (k + 1)) + 1 by omega]
 simp only [runF,hs,hf,ne_eq,not_true,if_false,show ¬ s' < 0 by omega]
theorem run_take {l:List Int} {k:Nat} (h:k < l.length) {st s':Int} (hs:stepZ st (l.getD k 0) = s') (h0:0 ≤ s') (hf:formZ s' ≠ 0) (e:Nat) (f:Int):run l st e f k = run l s' (k + 1) (formZ s') (k + 1):=by
 unfold run
 rw [show l.length - k = (l.length - (k + 1)) + 1 by omega]
 simp only [runF,hs,ne_eq,hf,not_false_eq_true,if_true,show ¬ s' < 0 by omega,if_false]
theorem isAt_of {l:List Int} {k:Nat} (h:k < l.length) (c:Int):isAt l k c = (l.getD k 0 == c):=by simp [-List.getD_eq_getElem?_getD,isAt,h]
theorem digAt_of {l:List Int} {k:Nat} (h:k < l.length):digAt l k = digB (l.getD k 0):=by simp [-List.getD_eq_getElem?_getD,digAt,h]
theorem isAt_not {l:List Int} {k:Nat} (h:¬ k < l.length) (c:Int):isAt l k c = false:=by simp [-List.getD_eq_getElem?_getD,isAt,h]
theorem digAt_not {l:List Int} {k:Nat} (h:¬ k < l.length):digAt l k = false:=by simp [-List.getD_eq_getElem?_getD,digAt,h]
theorem digB_not {c:Int} (h:digB c = true):c ≠ 45 ∧ c ≠ 43 ∧ c ≠ 46 ∧ c ≠ 101 ∧ c ≠ 69:=by
 unfold digB at h
 simp only [Bool.and_eq_true,decide_eq_true_eq] at h
 omega
theorem run8 (l:List Int) (k:Nat) (hk:k ≤ l.length):run l 8 k 2 k = (digs l k,digs l k,2):=by
 generalize hm:l.length - k = m
 induction m generalizing k with
 | zero =>
  rw [run_end (by omega),digs_no (digAt_not (by omega)),show k = l.length by omega]
 | succ m ih =>
  have hl:k < l.length:=by omega
  cases h:digAt l k
  ·rw [digs_no h,run_bad hl]
   rw [digAt_of hl] at h
   simp [-List.getD_eq_getElem?_getD,stepZ,h]
  ·rw [digs_yes h,← ih (k + 1) (by omega) (by omega)]
   rw [digAt_of hl] at h
   exact run_take (s':=8) hl (by simp [-List.getD_eq_getElem?_getD,stepZ,h]) (by omega) (by decide) _ _
theorem run7 (l:List Int) (k:Nat) (hk:k ≤ l.length) (e:Nat) (f:Int):run l 7 e f k = if digAt l k then (digs l k,digs l k,2) else (e,k,f):=by
 by_cases hl:k < l.length
 ·cases h:digAt l k
  ·rw [run_bad hl]
   ·rfl
   ·rw [digAt_of hl] at h;simp [-List.getD_eq_getElem?_getD,stepZ,h]
  ·rw [digs_yes h,← run8 l (k + 1) (by omega)]
   rw [digAt_of hl] at h
   exact run_take (s':=8) hl (by simp [-List.getD_eq_getElem?_getD,stepZ,h]) (by omega) (by decide) _ _
 ·rw [run_end hl,digAt_not hl,show k = l.length by omega];rfl
def after6 (l:List Int) (k e:Nat) (f:Int):Nat × Nat × Int:=
 if digAt l k then (digs l k,digs l k,2) else if isAt l k 43 = true ∨ isAt l k 45 = true then (if digAt l (k + 1) then (digs l (k + 1),digs l (k + 1),2) else (e,k + 1,f)) else (e,k,f)
theorem run6 (l:List Int) (k:Nat) (hk:k ≤ l.length) (e:Nat) (f:Int):run l 6 e f k = after6 l k e f:=by
 unfold after6
 by_cases hl:k < l.length
 ·cases h:digAt l k
  ·by_cases hs:isAt l k 43 = true ∨ isAt l k 45 = true
   ·rw [if_neg (by simp),if_pos hs,← run7 l (k + 1) (by omega) e f]
    rw [isAt_of hl,isAt_of hl] at hs
    rw [digAt_of hl] at h
    refine run_go (s':=7) hl ?_ (by omega) (by decide) _ _
    simp only [beq_iff_eq] at hs
    simp [-List.getD_eq_getElem?_getD,stepZ,h,hs]
   ·rw [if_neg (by simp),if_neg hs,run_bad hl]
    rw [isAt_of hl,isAt_of hl] at hs
    rw [digAt_of hl] at h
    simp only [beq_iff_eq] at hs
    simp [-List.getD_eq_getElem?_getD,stepZ,h,hs]
  ·rw [if_pos rfl,digs_yes h,← run8 l (k + 1) (by omega)]
   rw [digAt_of hl] at h
   exact run_take (s':=8) hl (by simp [-List.getD_eq_getElem?_getD,stepZ,h]) (by omega) (by decide) _ _
 ·rw [run_end hl,digAt_not hl,isAt_not hl,isAt_not hl,show k = l.length by omega];simp
def isE (l:List Int) (k:Nat):Bool:=isAt l k 101 || isAt l k 69
theorem isE_of {l:List Int} {k:Nat} (h:k < l.length):isE l k = true ↔ (l.getD k 0 = 101 ∨ l.getD k 0 = 69):=by
 unfold isE
 rw [isAt_of h,isAt_of h]
 simp only [Bool.or_eq_true,beq_iff_eq]
theorem isE_not {l:List Int} {k:Nat} (h:¬ k < l.length):isE l k = false:=by simp [isE,isAt_not h]
def afterE (l:List Int) (d:Nat) (f:Int):Nat × Nat × Int:=if isE l d then after6 l (d + 1) d f else (d,d,f)
theorem run5 (l:List Int) (k:Nat) (hk:k ≤ l.length):run l 5 k 2 k = afterE l (digs l k) 2:=by
 generalize hm:l.length - k = m
 induction m generalizing k with
 | zero =>
  rw [run_end (by omega),digs_no (digAt_not (by omega))]
  unfold afterE
  rw [isE_not (by omega),show k = l.length by omega];rfl
 | succ m ih =>
  have hl:k < l.length:=by omega
  cases h:digAt l k
  ·rw [digs_no h]
   unfold afterE
   rw [digAt_of hl] at h
   cases he:isE l k
   ·rw [run_bad hl]
    ·rfl
    ·have:¬ (l.getD k 0 = 101 ∨ l.getD k 0 = 69):=fun h => (by simp [he]:¬ isE l k = true) ((isE_of hl).2 h)
     simp [-List.getD_eq_getElem?_getD,stepZ,h,this]
   ·rw [if_pos rfl,← run6 l (k + 1) (by omega)]
    refine run_go (s':=6) hl ?_ (by omega) (by decide) _ _
    have:=(isE_of hl).1 he
    simp [-List.getD_eq_getElem?_getD,stepZ,h,this]
  ·rw [digs_yes h,← ih (k + 1) (by omega) (by omega)]
   rw [digAt_of hl] at h
   exact run_take (s':=5) hl (by simp [-List.getD_eq_getElem?_getD,stepZ,h]) (by omega) (by decide) _ _
theorem run4 (l:List Int) (k:Nat) (hk:k ≤ l.length) (e:Nat) (f:Int):run l 4 e f k = if digAt l k then afterE l (digs l k) 2 else (e,k,f):=by
 by_cases hl:k < l.length
 ·cases h:digAt l k
  ·rw [run_bad hl]
   ·rfl
   ·rw [digAt_of hl] at h;simp [-List.getD_eq_getElem?_getD,stepZ,h]
  ·rw [if_pos rfl,digs_yes h,← run5 l (k + 1) (by omega)]
   rw [digAt_of hl] at h
   exact run_take (s':=5) hl (by simp [-List.getD_eq_getElem?_getD,stepZ,h]) (by omega) (by decide) _ _
 ·rw [run_end hl,digAt_not hl,show k = l.length by omega];rfl
def tailZ (l:List Int) (d:Nat):Nat × Nat × Int:=if isAt l d 46 then (if digAt l (d + 1) then afterE l (digs l (d + 1)) 2 else (d,d + 1,1)) else afterE l d 1
theorem run_tail (l:List Int) (k:Nat) (hk:k ≤ l.length) (st:Int) (hst:st = 2 ∨ (st = 3 ∧ digAt l k = false)):run l st k 1 k = tailZ l k:=by
 unfold tailZ
 by_cases hl:k < l.length
 ·have hnd:¬ (digB (l.getD k 0) = true ∧ st = 3):=by
   rcases hst with rfl | ⟨rfl,h⟩
   ·omega
   ·rw [digAt_of hl] at h;simp only [h];simp
  have hstep:stepZ st (l.getD k 0) = if l.getD k 0 = 46 then 4 else if l.getD k 0 = 101 ∨ l.getD k 0 = 69 then 6 else -1:=by
   unfold stepZ
   rw [if_neg (by omega),if_pos (by omega),if_neg hnd]
  cases h:isAt l k 46
  ·rw [isAt_of hl] at h
   have h46:¬ l.getD k 0 = 46:=by simpa [-List.getD_eq_getElem?_getD] using h
   rw [if_neg h46] at hstep
   unfold afterE
   cases he:isE l k
   ·have h2:=fun h => (by simp [he]:¬ isE l k = true) ((isE_of hl).2 h)
    rw [if_neg h2] at hstep
    rw [run_bad hl (by omega)]
    rfl
   ·have h2:=(isE_of hl).1 he
    rw [if_pos h2] at hstep
    rw [if_neg (by simp),if_pos rfl,← run6 l (k + 1) (by omega)]
    exact run_go (s':=6) hl hstep (by omega) (by decide) _ _
  ·rw [isAt_of hl] at h
   have h46:l.getD k 0 = 46:=by simpa [-List.getD_eq_getElem?_getD] using h
   rw [if_pos h46] at hstep
   rw [if_pos rfl,← run4 l (k + 1) (by omega)]
   exact run_go (s':=4) hl hstep (by omega) (by decide) _ _
 ·rw [run_end hl,isAt_not hl]
  have e:afterE l k 1 = (k,k,1):=by unfold afterE;rw [isE_not hl];rfl
  rw [e,show k = l.length by omega];rfl
theorem run3 (l:List Int) (k:Nat) (hk:k ≤ l.length):run l 3 k 1 k = tailZ l (digs l k):=by
 generalize hm:l.length - k = m
 induction m generalizing k with
 | zero =>
  have hd:digAt l k = false:=digAt_not (by omega)
  rw [digs_no hd]
  exact run_tail l k hk 3 (.inr ⟨rfl,hd⟩)
 | succ m ih =>
  have hl:k < l.length:=by omega
  cases h:digAt l k
  ·rw [digs_no h]
   exact run_tail l k hk 3 (.inr ⟨rfl,h⟩)
  ·rw [digs_yes h,← ih (k + 1) (by omega) (by omega)]
   rw [digAt_of hl] at h
   exact run_take (s':=3) hl (by simp [-List.getD_eq_getElem?_getD,stepZ,h]) (by omega) (by decide) _ _
def wholeZ (l:List Int) (p k:Nat):Nat × Nat × Int:=if isAt l k 48 then tailZ l (k + 1) else if digAt l k then tailZ l (digs l k) else (p,k,0)
theorem run_whole (l:List Int) (k:Nat) (hk:k ≤ l.length) (st:Int) (hst:st = 1 ∨ (st = 0 ∧ isAt l k 45 = false)) (p:Nat):run l st p 0 k = wholeZ l p k:=by
 unfold wholeZ
 by_cases hl:k < l.length
 ·have hstep:stepZ st (l.getD k 0) = if l.getD k 0 = 48 then 2 else if digB (l.getD k 0) then 3 else -1:=by
   unfold stepZ
   rw [if_pos (by omega),if_neg]
   rintro ⟨h1,h2⟩
   rcases hst with rfl | ⟨rfl,h⟩
   ·omega
   ·rw [isAt_of hl] at h;simp [-List.getD_eq_getElem?_getD] at h;exact h h1
  cases h:isAt l k 48
  ·rw [isAt_of hl] at h
   rw [if_neg (by simpa [-List.getD_eq_getElem?_getD] using h)] at hstep
   cases hd:digAt l k
   ·rw [digAt_of hl] at hd
    rw [hd,if_neg (by simp)] at hstep
    rw [run_bad hl (by omega)];rfl
   ·rw [if_neg (by simp),if_pos rfl,digs_yes hd,← run3 l (k + 1) (by omega)]
    rw [digAt_of hl] at hd
    rw [hd,if_pos rfl] at hstep
    exact run_take (s':=3) hl hstep (by omega) (by decide) _ _
  ·rw [isAt_of hl] at h
   rw [if_pos (by simpa [-List.getD_eq_getElem?_getD] using h)] at hstep
   rw [if_pos rfl,← run_tail l (k + 1) (by omega) 2 (.inl rfl)]
   exact run_take (s':=2) hl hstep (by omega) (by decide) _ _
 ·rw [run_end hl,isAt_not hl,digAt_not hl,show k = l.length by omega];rfl
theorem run0 (l:List Int) (p:Nat) (hp:p ≤ l.length):run l 0 p 0 p = wholeZ l p (pfxFirst l p):=by
 unfold pfxFirst
 cases h:isAt l p 45
 ·exact run_whole l p hp 0 (.inr ⟨rfl,h⟩) p
 ·have hl:=isAt_lt h
  rw [if_pos rfl,← run_whole l (p + 1) (by omega) 1 (.inl rfl) p]
  rw [isAt_of hl] at h
  exact run_go (s':=1) hl (by simp [-List.getD_eq_getElem?_getD] at h;simp [-List.getD_eq_getElem?_getD,stepZ,h]) (by omega) (by decide) _ _
theorem bPart_of (l:List Int) (p first:Nat) (h:p < first):bPart l p first = if digAt l first then (digs l first,digs l first) else (p,first):=by
 unfold bPart
 rw [if_neg (by omega)]
 cases hd:digAt l first
 ·rw [digs_no hd];simp
 ·have:=digs_pos hd
  rw [if_neg (by omega)];rfl
theorem bMark_e (l:List Int) (d:Nat):bMark l d = if isE l d then (if isAt l (d + 1) 43 = true ∨ isAt l (d + 1) 45 = true then d + 2 else d + 1) else d:=by
 unfold bMark isE
 cases h1:isAt l d 101 <;> cases h2:isAt l d 69 <;> simp
theorem part_mark (l:List Int) (d:Nat) (f:Int):afterE l d f = ((bPart l d (bMark l d)).1,(bPart l d (bMark l d)).2,if (bPart l d (bMark l d)).1 > d then 2 else f):=by
 rw [bMark_e]
 unfold afterE after6
 cases he:isE l d
 ·simp [bPart]
 ·simp only [if_true]
  cases hd:digAt l (d + 1)
  ·by_cases hs:isAt l (d + 1) 43 = true ∨ isAt l (d + 1) 45 = true
   ·rw [if_pos hs,if_pos hs,bPart_of l d (d + 2) (by omega)]
    cases hd2:digAt l (d + 2)
    ·simp
    ·have:=digs_pos hd2
     simp [show d < digs l (d + 2) by omega]
   ·rw [if_neg hs,if_neg hs,bPart_of l d (d + 1) (by omega),hd]
    simp
  ·have hns:¬ (isAt l (d + 1) 43 = true ∨ isAt l (d + 1) 45 = true):=by
    have hl:=digAt_lt hd
    rw [digAt_of hl] at hd
    rw [isAt_of hl,isAt_of hl]
    have:=digB_not hd
    simp only [beq_iff_eq]
    omega
   have:=digs_pos hd
   rw [if_neg hns,if_neg hns,bPart_of l d (d + 1) (by omega),hd]
   simp [show d < digs l (d + 1) by omega]
theorem part_tail (l:List Int) (e:Nat):tailZ l e = ((pfxR l e).1,(pfxR l e).2,if (pfxR l e).1 > e then 2 else 1):=by
 unfold tailZ pfxR bPoint
 cases h:isAt l e 46
 ·have e1:bPart l e e = (e,e):=by simp [bPart]
  simp only [e1,if_true,if_false,Bool.false_eq_true]
  exact part_mark l e 1
 ·simp only [if_true]
  rw [bPart_of l e (e + 1) (by omega)]
  cases hd:digAt l (e + 1)
  ·simp
  ·have:=digs_pos hd
   simp only [if_true]
   rw [part_mark]
   have h2:digs l (e + 1) ≤ (bPart l (digs l (e + 1)) (bMark l (digs l (e + 1)))).1:=by
    unfold bPart
    repeat' split
    ·exact Nat.le_refl _
    ·exact Nat.le_refl _
    ·rename_i h3 h4
     have h5:=(digs_le l (bMark l (digs l (e + 1)))).1
     have:digs l (e + 1) ≤ bMark l (digs l (e + 1)):=by
      unfold bMark
      repeat' split
      all_goals omega
     simp only
     omega
   have h3:(bPart l (digs l (e + 1)) (bMark l (digs l (e + 1)))).1 > e:=by omega
   rw [if_pos h3]
   split <;> rfl
theorem pfx_run (l:List Int) (p:Nat) (hp:p ≤ l.length):run l 0 p 0 p = pfx l p:=by
 rw [run0 l p hp]
 unfold wholeZ pfx bWhole
 cases h:isAt l (pfxFirst l p) 48
 ·simp only [Bool.false_eq_true,if_false]
  cases hd:digAt l (pfxFirst l p)
  ·rw [digs_no hd];simp
  ·have:=digs_pos hd
   rw [if_neg (by omega:¬ digs l (pfxFirst l p) = pfxFirst l p),part_tail];rfl
 ·simp only [if_true]
  rw [if_neg (by omega),part_tail]
theorem whole_le {l:List Int} {p:Nat} (h:p ≤ l.length):bWhole l p ≤ l.length:=by
 unfold bWhole
 split
 ·rename_i e;exact isAt_lt e
 ·exact (digs_le l p).2 h
theorem point_le {l:List Int} {p:Nat} (h:p ≤ l.length):bPoint l p ≤ l.length:=by
 unfold bPoint
 split
 ·rename_i e;exact isAt_lt e
 ·exact h
theorem mark_le {l:List Int} {p:Nat} (h:p ≤ l.length):bMark l p ≤ l.length:=by
 unfold bMark
 split
 ·exact h
 ·rename_i e
  split
  ·rename_i e2
   rcases e2 with e2 | e2
   ·exact isAt_lt e2
   ·exact isAt_lt e2
  ·cases h1:isAt l p 101
   ·cases h2:isAt l p 69
    ·exact absurd ⟨h1,h2⟩ e
    ·exact isAt_lt h2
   ·exact isAt_lt h1
theorem part_le {l:List Int} {p f:Nat} (h:p ≤ l.length) (hf:f ≤ l.length):(bPart l p f).1 ≤ l.length ∧ (bPart l p f).2 ≤ l.length:=by
 unfold bPart
 have:=(digs_le l f).2 hf
 repeat' split
 all_goals exact ⟨by simp only;omega,by simp only;omega⟩
theorem pfx_le (l:List Int) (p:Nat) (hp:p ≤ l.length):(pfx l p).1 ≤ l.length ∧ (pfx l p).2.1 ≤ l.length:=by
 rw [← pfx_run l p hp]
 unfold run
 generalize hm:l.length - p = m
 have:∀ (m:Nat) (st:Int) (e:Nat) (f:Int) (k:Nat),e ≤ l.length → k + m ≤ l.length → (runF l m st e f k).1 ≤ l.length ∧ (runF l m st e f k).2.1 ≤ l.length:=by
  intro m
  induction m with
  | zero => intro st e f k he hk;exact ⟨he,Nat.le_refl _⟩
  | succ m ih =>
   intro st e f k he hk
   simp only [runF]
   repeat' split
   ·exact ⟨he,by simp only;omega⟩
   ·exact ih _ _ _ _ (by omega) (by omega)
   ·exact ih _ _ _ _ he (by omega)
 exact this m 0 p 0 p hp (by omega)
end Go.Proofs.YtdogjghalplohaaGreatDoor.mem
