import Derived.Test.YtjlaoeigfokkiaaGreatDoorBr34
import Derived.Test.YtjlaoeigfokkiaaGreatDoorBr45
import Derived.Test.YtjlaoeigfokkiaaGreatDoorBr31
import Derived.Test.YtjlaoeigfokkiaaGreatDoorBr32
namespace Go.Proofs.YtjlaoeigfokkiaaGreatDoor.fto
open Go.ChangeShapes Go.WideShapes Go.ChangeAt Go.RowKit
open mem Go.Sort
open ints (hide unhide)
set_option linter.unusedVariables false
set_option linter.unusedSimpArgs false
theorem rnum_ok (s:ByteArray) (hs:s.size ≤ 1050000):∃ (k i:Int) (f:Nat) (e:Int),f < 18446744073709551616 ∧ -9223372036854775808 ≤ i ∧ i ≤ 9223372036854775807 ∧ 0 ≤ k ∧ k ≤ 3 ∧ 0 ≤ e ∧ e ≤ 20 ∧
  (∀ W,dcm.Fz W → Calls Tryz.prog 8 #[.string s] W fun x w' => x = .returned (.tuple #[.agg #[.int .i64 k,.int .i64 i,.float .f64 f],.int .i64 e]) ∧ Below W.heap.size W w') ∧
  ∀ W,Calls Tryz.prog 9 #[.string s] W fun x w' => x = .returned (.tuple #[.agg #[.int .i64 k,.int .i64 i,.int .u64 (f:Nat)],.int .i64 e]) ∧ Below W.heap.size W w':=by
 have hinf:infR = 9218868437227405312:=rfl
 cases hn:numP (bytZ s)
 ·exact ⟨0,0,0,20,by omega,by omega,by omega,by omega,by omega,by omega,by omega,fun W _ => read_bad s hs hn W,fun W => rnum_none s W hs hn⟩
 ·obtain ⟨ng,A,F,E,e1,hA,hF,hE,hfm⟩:=num_parts (bytZ s) (of_decide_eq_true hn)
  have hT:NumT (bytZ s) ng A F E:=⟨e1,hA,hF,hE⟩
  have hng:=Bool.toNat_le ng
  by_cases hw:isW ng A F E
  ·obtain ⟨rfl,rfl,hin⟩:=hw
   have hb:-9223372036854775808 ≤ svI ng (dv A) ∧ svI ng (dv A) ≤ 9223372036854775807:=by
    unfold inI at hin
    unfold svI
    cases ng
    ·simp at hin ⊢;omega
    ·simp at hin ⊢;omega
   exact ⟨2,svI ng (dv A),0,0,by omega,hb.1,hb.2,by omega,by omega,by omega,by omega,fun W _ => read_w s hs ng A hT hin W,fun W => rnum_w s ng A W hs hT hin⟩
  ·obtain ⟨R,hR⟩:=FlV.some A F E
   have hRl:=hR.le
   have RB:=fun W => readBits_ok s hs ng A F E hT R hR W
   have SM:F = [] ∧ E = none → ∀ W,Calls Tryz.prog 23 #[.string s] W fun e w' => ∃ n,e = .returned (.tuple #[.int .i64 n,.bool false]) ∧ Below W.heap.size W w':=by
    rintro ⟨rfl,rfl⟩ W
    refine (small_ok s ng A W (by omega) hT).mono ?_
    rintro e w1 ⟨n,rfl,-,b⟩
    have:inI ng (dv A) = false:=by
     cases hq:inI ng (dv A)
     ·rfl
     ·exact absurd ⟨rfl,rfl,hq⟩ hw
    exact ⟨n,by rw [this],b⟩
   by_cases hi:R < infR
   ·refine ⟨3,0,ng.toNat * 9223372036854775808 + R,0,by omega,by omega,by omega,by omega,by omega,by omega,by omega,fun W hW => read_f s hs ng A F E hT hw R hR hi W hW,fun W => ?_⟩
    have RB2:∀ W,Calls Tryz.prog 24 #[.string s] W fun e w' => ∃ Z:Nat,e = .returned (.tuple #[.int .u64 (Z:Nat),.bool true]) ∧ Z = ng.toNat * 9223372036854775808 + R ∧ Below W.heap.size W w':=by
     intro W
     refine (RB W).mono ?_
     rintro e w1 ⟨Rb,rfl,h1,b⟩
     rw [decide_eq_true hi]
     exact ⟨_,rfl,by rw [h1 hi],b⟩
    by_cases h0:F = [] ∧ E = none
    ·rw [if_pos h0] at hfm
     exact rnum_fa s _ W hs hfm (SM h0) RB2
    ·rw [if_neg h0] at hfm
     exact rnum_fb s _ W hs hfm RB2
   ·obtain rfl:R = infR:=by omega
    refine ⟨0,0,0,7,by omega,by omega,by omega,by omega,by omega,by omega,by omega,fun W hW => read_b s hs ng A F E hT hw hR W hW,fun W => ?_⟩
    have RB2:∀ W,Calls Tryz.prog 24 #[.string s] W fun e w' => ∃ Z:Nat,e = .returned (.tuple #[.int .u64 (Z:Nat),.bool false]) ∧ Below W.heap.size W w':=by
     intro W
     refine (RB W).mono ?_
     rintro e w1 ⟨Rb,rfl,h1,b⟩
     rw [decide_eq_false hi]
     exact ⟨_,rfl,b⟩
    by_cases h0:F = [] ∧ E = none
    ·rw [if_pos h0] at hfm
     exact rnum_ia s 0 W hs hfm (SM h0) RB2
    ·rw [if_neg h0] at hfm
     exact rnum_ib s 0 W hs hfm RB2
set_option maxHeartbeats 1000000 in
set_option maxRecDepth 100000 in
theorem sameNum_ok (k i:Int) (f:Nat) (w:World) :
  Calls Tryz.prog 10 #[.agg #[.int .i64 k,.int .i64 i,.float .f64 f],.agg #[.int .i64 k,.int .i64 i,.int .u64 (f:Nat)]] w fun e w' => e = .returned (.bool true) ∧ Below w.heap.size w w':=by
 have FB:=fun W => run_tobits f W
 have hsf:=fun (a:Addr) (n:Nat) (w:World) => run_store Tryz.prog w a (.float .f64 n) .plain rfl
 obtain ⟨U,hU⟩:∃ U,U = (w.alloc (.cells #[.int .i64 k,.int .i64 i,.float .f64 f] 27)).alloc (.cells #[.int .i64 k,.int .i64 i,.int .u64 (f:Nat)] 33):=⟨_,rfl⟩
 have hBU:=hide (show Below w.heap.size w U by rw [hU];exact ((Below.refl _ _).alloc (Nat.le_refl _) _).alloc (by simp) _)
 have c1:U.heap[w.heap.size]? = some (.cells #[.int .i64 k,.int .i64 i,.float .f64 f] 27 (0,0)):=by
  rw [hU]
  have:=((Below.refl (w.alloc (.cells #[.int .i64 k,.int .i64 i,.float .f64 f] 27)).heap.size (w.alloc (.cells #[.int .i64 k,.int .i64 i,.float .f64 f] 27))).alloc (Nat.le_refl _) (.cells #[.int .i64 k,.int .i64 i,.int .u64 (f:Nat)] 33)).block w.heap.size (by simp)
  exact this.trans (heap_alloc_new w _)
 have c2:U.heap[w.heap.size + 1]? = some (.cells #[.int .i64 k,.int .i64 i,.int .u64 (f:Nat)] 33 (0,0)):=by
  rw [hU]
  have:=heap_alloc_new (w.alloc (.cells #[.int .i64 k,.int .i64 i,.float .f64 f] 27)) (.cells #[.int .i64 k,.int .i64 i,.int .u64 (f:Nat)] 33)
  simpa using this
 have d0:=cell_of c1 0
 have d1:=cell_of c1 1
 have d2:=cell_of c1 2
 have e0:=cell_of c2 0
 have e1:=cell_of c2 1
 have e2:=cell_of c2 2
 have HU:=hide hU
 clear hU c1 c2
 go_enter Tryz.func10,Tryz.ntmps10
 go_wp2_with fail
 rw [← unhide HU]
 refine wp_region_noPanic ?_
 refine wp_region_held (S:=fun w' => w'.cell? ⟨w.heap.size,0,none⟩ = some (.int .i64 k) ∧ w'.cell? ⟨w.heap.size,1,none⟩ = some (.int .i64 i) ∧ w'.cell? ⟨w.heap.size,2,none⟩ = some (.float .f64 f) ∧ w'.cell? ⟨w.heap.size + 1,0,none⟩ = some (.int .i64 k) ∧ w'.cell? ⟨w.heap.size + 1,1,none⟩ = some (.int .i64 i) ∧ w'.cell? ⟨w.heap.size + 1,2,none⟩ = some (.int .u64 (f:Nat))) mixedL ?_
 have hS0:U.drew.cell? ⟨w.heap.size,0,none⟩ = some (.int .i64 k) ∧ U.drew.cell? ⟨w.heap.size,1,none⟩ = some (.int .i64 i) ∧ U.drew.cell? ⟨w.heap.size,2,none⟩ = some (.float .f64 f) ∧ U.drew.cell? ⟨w.heap.size + 1,0,none⟩ = some (.int .i64 k) ∧ U.drew.cell? ⟨w.heap.size + 1,1,none⟩ = some (.int .i64 i) ∧ U.drew.cell? ⟨w.heap.size + 1,2,none⟩ = some (.int .u64 (f:Nat)):=⟨d0,d1,d2,e0,e1,e2⟩
 refine rgn.tl (i:=0) (v:=?v1) rfl (by kernel_rfl) (fun _ _ _ h => h) (by rfl) ?hy1 hS0 ?_
 case hy1 => (intro w' hw';obtain ⟨q0,q1,q2,q3,q4,q5⟩:=hw';go_simp;try with_reducible rfl)
 simp only [zA,zB,zC,Act.put,zD,zE,zF]
 refine rgn.tl (i:=1) (v:=?v2) rfl (by kernel_rfl) (fun _ _ _ h => h) (by rfl) ?hy2 hS0 ?_
 case hy2 => (intro w' hw';obtain ⟨q0,q1,q2,q3,q4,q5⟩:=hw';go_simp;try with_reducible rfl)
 simp only [zA,zB,zC,Act.put,zD,zE,zF]
 refine rgn.tl (i:=2) (v:=?v3) rfl (by kernel_rfl) (fun _ _ _ h => h) (by rfl) ?hy3 hS0 ?_
 case hy3 => (intro w' hw';obtain ⟨q0,q1,q2,q3,q4,q5⟩:=hw';go_simp;try with_reducible rfl)
 simp only [zA,zB,zC,Act.put,zD,zE,zF]
 refine rgn.tl (i:=3) (v:=?v4) rfl (by kernel_rfl) (fun _ _ _ h => h) (by rfl) ?hy4 hS0 ?_
 case hy4 => (intro w' hw';obtain ⟨q0,q1,q2,q3,q4,q5⟩:=hw';go_simp;try with_reducible rfl)
 simp only [zA,zB,zC,Act.put,zD,zE,zF]
 refine rgn.tl (i:=4) (v:=?v5) rfl (by kernel_rfl) (fun _ _ _ h => h) (by rfl) ?hy5 hS0 ?_
 case hy5 => (intro w' hw';obtain ⟨q0,q1,q2,q3,q4,q5⟩:=hw';go_simp;try with_reducible rfl)
 simp only [zA,zB,zC,Act.put,zD,zE,zF]
 refine rgn.tl (i:=5) (v:=?v6) rfl (by kernel_rfl) (fun _ _ _ h => h) (by rfl) ?hy6 hS0 ?_
 case hy6 => (intro w' hw';obtain ⟨q0,q1,q2,q3,q4,q5⟩:=hw';go_simp;try with_reducible rfl)
 simp only [zA,zB,zC,Act.put,zD,zE,zF]
 refine rgn.tl (i:=6) (v:=?v7) rfl (by kernel_rfl) (fun _ _ _ h => h) (by rfl) ?hy7 hS0 ?_
 case hy7 => (intro w' hw';obtain ⟨q0,q1,q2,q3,q4,q5⟩:=hw';go_simp;try with_reducible rfl)
 simp only [zA,zB,zC,Act.put,zD,zE,zF]
 refine rgn.tl (i:=7) (v:=?v8) rfl (by kernel_rfl) (fun _ _ _ h => h) (by rfl) ?hy8 hS0 ?_
 case hy8 => (intro w' hw';obtain ⟨q0,q1,q2,q3,q4,q5⟩:=hw';go_simp;try with_reducible rfl)
 simp only [zA,zB,zC,Act.put,zD,zE,zF]
 refine rgn.tl (i:=8) (v:=?v9) rfl (by kernel_rfl) (fun _ _ _ h => h) (by rfl) ?hy9 hS0 ?_
 case hy9 => (intro w' hw';obtain ⟨q0,q1,q2,q3,q4,q5⟩:=hw';go_simp;try with_reducible rfl)
 simp only [zA,zB,zC,Act.put,zD,zE,zF]
 refine rgn.tl (i:=9) (v:=?v10) rfl (by kernel_rfl) (fun _ _ _ h => h) (by rfl) ?hy10 hS0 ?_
 case hy10 => (intro w' hw';obtain ⟨q0,q1,q2,q3,q4,q5⟩:=hw';go_simp;try with_reducible rfl)
 simp only [zA,zB,zC,Act.put,zD,zE,zF]
 refine rgn.tl (i:=10) (v:=?v11) rfl (by kernel_rfl) (fun _ _ _ h => h) (by rfl) ?hy11 hS0 ?_
 case hy11 => (intro w' hw';obtain ⟨q0,q1,q2,q3,q4,q5⟩:=hw';go_simp;try with_reducible rfl)
 simp only [zA,zB,zC,Act.put,zD,zE,zF]
 refine rgn.tl (i:=11) (v:=?v12) rfl (by kernel_rfl) (fun _ _ _ h => h) (by rfl) ?hy12 hS0 ?_
 case hy12 => (intro w' hw';obtain ⟨q0,q1,q2,q3,q4,q5⟩:=hw';go_simp;try with_reducible rfl)
 simp only [zA,zB,zC,Act.put,zD,zE,zF]
 refine rgn.tl (i:=12) (v:=?v13) rfl (by kernel_rfl) (fun _ _ _ h => h) (by rfl) ?hy13 hS0 ?_
 case hy13 => (intro w' hw';obtain ⟨q0,q1,q2,q3,q4,q5⟩:=hw';go_simp;try with_reducible rfl)
 simp only [zA,zB,zC,Act.put,zD,zE,zF]
 refine rgn.tl (i:=13) (v:=?v14) rfl (by kernel_rfl) (fun _ _ _ h => h) (by rfl) ?hy14 hS0 ?_
 case hy14 => (intro w' hw';obtain ⟨q0,q1,q2,q3,q4,q5⟩:=hw';go_simp;try with_reducible rfl)
 simp only [zA,zB,zC,Act.put,zD,zE,zF]
 refine rgn.tl (i:=14) (v:=?v15) rfl (by kernel_rfl) (fun _ _ _ h => h) (by rfl) ?hy15 hS0 ?_
 case hy15 => (intro w' hw';obtain ⟨q0,q1,q2,q3,q4,q5⟩:=hw';go_simp;try with_reducible rfl)
 simp only [zA,zB,zC,Act.put,zD,zE,zF]
 refine rgn.tl (i:=15) (v:=?v16) rfl (by kernel_rfl) (fun _ _ _ h => h) (by rfl) ?hy16 hS0 ?_
 case hy16 => (intro w' hw';obtain ⟨q0,q1,q2,q3,q4,q5⟩:=hw';go_simp;try with_reducible rfl)
 simp only [zA,zB,zC,Act.put,zD,zE,zF]
 refine rgn.tl (i:=16) (v:=?v17) rfl (by kernel_rfl) (fun _ _ _ h => h) (by rfl) ?hy17 hS0 ?_
 case hy17 => (intro w' hw';obtain ⟨q0,q1,q2,q3,q4,q5⟩:=hw';go_simp;try with_reducible rfl)
 simp only [zA,zB,zC,Act.put,zD,zE,zF]
 refine rgn.tl (i:=17) (v:=?v18) rfl (by kernel_rfl) (fun _ _ _ h => h) (by rfl) ?hy18 hS0 ?_
 case hy18 => (intro w' hw';obtain ⟨q0,q1,q2,q3,q4,q5⟩:=hw';go_simp;try with_reducible rfl)
 simp only [zA,zB,zC,Act.put,zD,zE,zF]
 refine rgn.tl (i:=18) (v:=?v19) rfl (by kernel_rfl) (fun _ _ _ h => h) (by rfl) ?hy19 hS0 ?_
 case hy19 => (intro w' hw';obtain ⟨q0,q1,q2,q3,q4,q5⟩:=hw';go_simp;try with_reducible rfl)
 simp only [zA,zB,zC,Act.put,zD,zE,zF]
 refine rgn.tl (i:=19) (v:=?v20) rfl (by kernel_rfl) (fun _ _ _ h => h) (by rfl) ?hy20 hS0 ?_
 case hy20 => (intro w' hw';obtain ⟨q0,q1,q2,q3,q4,q5⟩:=hw';go_simp;try with_reducible rfl)
 simp only [zA,zB,zC,Act.put,zD,zE,zF]
 refine rgn.tl (i:=20) (v:=?v21) rfl (by kernel_rfl) (fun _ _ _ h => h) (by rfl) ?hy21 hS0 ?_
 case hy21 => (intro w' hw';obtain ⟨q0,q1,q2,q3,q4,q5⟩:=hw';go_simp;try with_reducible rfl)
 simp only [zA,zB,zC,Act.put,zD,zE,zF]
 refine wpAnyH_done (by kernel_rfl) ?_ _;refine NoPanic.normal ?_
 go_wp2
 go_ret
 exact ⟨rfl,(unhide hBU).drew⟩
end Go.Proofs.YtjlaoeigfokkiaaGreatDoor.fto
namespace Go.Proofs.YtjlaoeigfokkiaaGreatDoor.fto
open Go.ChangeShapes Go.WideShapes Go.ChangeAt Go.RowKit
open mem Go.Sort
open ints (hide unhide)
set_option linter.unusedVariables false
set_option linter.unusedSimpArgs false
set_option maxHeartbeats 1000000 in
set_option maxRecDepth 100000 in
theorem law_reads (a:Option Addr) (n c:Nat) (Sx:Nat → ByteArray) (w:World) (hW:dcm.Fz w) (h:Txs w a n Sx) (hnc:n ≤ c) (hn:n ≤ 1048576) :
  Calls Tryz.prog 3 #[.slice a n c] w fun e w' => e = .returned (.bool true) ∧ Below w.heap.size w w':=by
 have A1:=hide (fixed_ok w hW.fy)
 have HF:=hide hW
 have hsf:=fun (a:Addr) (n:Nat) (w:World) => run_store Tryz.prog w a (.float .f64 n) .plain rfl
 clear hW
 go_enter Tryz.func3,Tryz.ntmps3
 go_wp2_with fail
 refine (unhide A1).mono ?_
 rintro e w1 ⟨rfl,b1⟩
 go_wp2_with fail
 go_loopw [3] (fun vi wr => ∃ k:Nat,k ≤ n ∧ vi = .int .i64 k ∧ Below w.heap.size w wr) (fun vi _ => n - (intOf vi).toNat)
 case atStart => exact ⟨0,Nat.zero_le _,rfl,b1⟩
 case round =>
  obtain ⟨k,hk,rfl,hb⟩:=hrel
  by_cases hlt:k < n
  ·rcases h.at_ with h0 | ⟨b,off,rfl,hbw,hcell⟩
   ·omega
   have c1:=(hb.cell (p:=⟨b,off + k,none⟩) hbw).trans (hcell k hlt)
   have hf:=h.few k hlt
   obtain ⟨s,hs⟩:∃ s,s = Sx k:=⟨_,rfl⟩
   rw [← hs] at c1 hf
   clear hs hcell
   obtain ⟨kk,ii,ff,ee,hff,hi1,hi2,hk1,hk2,he1,he2,RD,RN⟩:=rnum_ok s (by omega)
   have R:=hide RD
   have T:=hide RN
   have SN:=hide (fun W => sameNum_ok kk ii ff W)
   clear RD RN
   have HB:=hide hb
   have hsz:=hb.size
   go_wp2_with fail
   refine (unhide R _ ((unhide HF).below (unhide HB))).mono ?_
   rintro e w2 ⟨rfl,b2⟩
   have HB2:=hide ((unhide HB).trans (b2.mono hsz))
   have hz2:=b2.size
   have c2:=(b2.cell (p:=⟨b,off + k,none⟩) (Nat.lt_of_lt_of_le hbw hsz)).trans c1
   have c3:(w2.alloc (.cells #[.int .i64 kk,.int .i64 ii,.float .f64 ff] 27)).cell? ⟨b,off + k,none⟩ = some (.string s):=(((Below.refl w2.heap.size w2).alloc (Nat.le_refl _) (.cells #[.int .i64 kk,.int .i64 ii,.float .f64 ff] 27)).cell (p:=⟨b,off + k,none⟩) (Nat.lt_of_lt_of_le hbw (by omega))).trans c2
   clear R c1 b2 HB hb
   go_wp2_with fail
   obtain ⟨U,hU⟩:∃ U,U = w2.alloc (.cells #[.int .i64 kk,.int .i64 ii,.float .f64 ff] 27):=⟨_,rfl⟩
   have hb0:U.heap[w2.heap.size]? = some (.cells #[.int .i64 kk,.int .i64 ii,.float .f64 ff] 27 (0,0)):=by rw [hU];exact heap_alloc_new w2 _
   have bU:Below w2.heap.size w2 U:=by rw [hU];exact (Below.refl _ _).alloc (Nat.le_refl _) _
   have zU:w2.heap.size < U.heap.size:=by rw [hU];simp
   rw [← hU]
   clear hU
   refine (unhide T U).mono ?_
   rintro e w3 ⟨rfl,b3⟩
   have hs3:=(b3.block w2.heap.size zU).trans hb0
   have bV3:=bU.trans (b3.mono bU.size)
   have hz3:=bV3.size
   have hsv:w2.heap.size < w3.heap.size:=Nat.lt_of_lt_of_le zU b3.size
   have HB3:=hide ((unhide HB2).trans (bV3.mono (unhide HB2).size))
   have bL:Below w3.heap.size w3 (w3.alloc (.cells #[.int .i64 kk,.int .i64 ii,.int .u64 (ff:Nat)] 33)):=(Below.refl _ _).alloc (Nat.le_refl _) _
   have hL2:=heap_alloc_new w3 (.cells #[.int .i64 kk,.int .i64 ii,.int .u64 (ff:Nat)] 33)
   have hL1:=(bL.block w2.heap.size hsv).trans hs3
   have d0:=cell_of hL1 0
   have d1:=cell_of hL1 1
   have d2:=cell_of hL1 2
   have e0:=cell_of hL2 0
   have e1:=cell_of hL2 1
   have e2:=cell_of hL2 2
   have HB4:=hide ((unhide HB3).trans (bL.mono (unhide HB3).size))
   clear b3 bV3 T hb0 bU c2 c3 HB2 hL1 hL2 hs3 bL HB3
   go_wp2_with fail
   refine (unhide SN _).mono ?_
   rintro e w4 ⟨rfl,b4⟩
   have HB5:=hide ((unhide HB4).trans (b4.mono (unhide HB4).size))
   clear d0 d1 d2 e0 e1 e2 b4 HB4 SN
   go_wp2
   refine ⟨⟨k + 1,by omega,rfl,unhide HB5⟩,?_⟩
   simp only [intOf]
   omega
  ·go_wp2
   go_ret
   exact ⟨rfl,hb⟩
end Go.Proofs.YtjlaoeigfokkiaaGreatDoor.fto
