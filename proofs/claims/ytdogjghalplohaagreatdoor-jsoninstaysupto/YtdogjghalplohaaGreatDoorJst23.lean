import Derived.Test.YtdogjghalplohaaGreatDoorJv34
import Derived.Test.YtdogjghalplohaaGreatDoorJv35
import Derived.Test.YtdogjghalplohaaGreatDoorJst13
import Derived.Test.YtdogjghalplohaaGreatDoorJst14
import Derived.Test.YtdogjghalplohaaGreatDoorJst20
namespace Go.Proofs.YtdogjghalplohaaGreatDoor.jin
open Go.ChangeShapes Go.WideShapes Go.ChangeAt Go.RowKit
open mem Go.Maps
open vl (Vl Vls Fls VlC VlsAt FlsAt Row8 Small SmallI SmallF infoV)
open ints (hide unhide hexV)
open fto (bytZ)
set_option linter.unusedVariables false
set_option linter.unusedSimpArgs false
theorem wrap_in {x:Int} (h0:-9223372036854775808 ≤ x) (h1:x ≤ 9223372036854775807):IntKind.i64.wrap x = x:=by
 unfold IntKind.wrap
 simp [IntKind.signed,IntKind.bits,IntKind.min,IntKind.max]
 omega
theorem row_take {w:World} {a:Option Addr} {n c:Nat} {Z:List Int} (h:Row .u8 w a n c Z) {i:Nat} (hi:i ≤ n):Row .u8 w a i c (Z.take i):=by
 have hl:=h.len
 have hle:=h.le
 refine ⟨by rw [List.length_take];omega,by omega,h.nil,?_⟩
 rcases h.at_ with h0 | ⟨b,off,he,hb,hc⟩
 ·exact .inl (by omega)
 ·refine .inr ⟨b,off,he,hb,fun j hj => ?_⟩
  rw [hc j (by omega)]
  congr 2
  rw [List.getD_eq_getElem?_getD,List.getD_eq_getElem?_getD,List.getElem?_take_of_lt hj]
theorem getD_take {l:List Int} {i j:Nat} (h:j < i):(l.take i).getD j 0 = l.getD j 0:=by
 rw [List.getD_eq_getElem?_getD,List.getD_eq_getElem?_getD,List.getElem?_take_of_lt h]
theorem agr_take {Z:List Int} {p:Nat} (hp:p ≤ Z.length):Agr Z (Z.take p) p:=fun p' h => by
 have hl:(Z.take p).length = p:=by rw [List.length_take];omega
 refine ⟨by omega,by omega,by rw [List.take_take,Nat.min_eq_left h],?_⟩
 by_cases he:p' = p
 ·left;omega
 ·right;exact ⟨by omega,by omega,getD_take (by omega)⟩
theorem agr_more {Z T:List Int} {p:Nat} (hp:p < Z.length):Agr Z (Z.take (p + 1) ++ T) p:=fun p' h => by
 have hl:(Z.take (p + 1)).length = p + 1:=by rw [List.length_take];omega
 refine ⟨by omega,by rw [List.length_append];omega,by rw [List.take_append_of_le_length (by omega),List.take_take,Nat.min_eq_left (by omega)],.inr ⟨by omega,by rw [List.length_append];omega,?_⟩⟩
 rw [getD_ext (by omega),getD_take (by omega)]
theorem take_byt {Z:List Int} (hZ:∀ z ∈ Z,0 ≤ z ∧ z ≤ 255) (i:Nat):∀ z ∈ Z.take i,0 ≤ z ∧ z ≤ 255:=fun z hz => hZ z (List.mem_of_mem_take hz)
theorem app_byt2 {A B:List Int} (hA:∀ z ∈ A,0 ≤ z ∧ z ≤ 255) (hB:∀ z ∈ B,0 ≤ z ∧ z ≤ 255):∀ z ∈ A ++ B,0 ≤ z ∧ z ≤ 255:=fun z hz => by
 rcases List.mem_append.1 hz with h | h
 ·exact hA z h
 ·exact hB z h
theorem stay_head {Z:List Int} (hZ:∀ z ∈ Z,0 ≤ z ∧ z ≤ 255) {depth:Int} {p:Nat} {k:Int} (h:RdO Z depth = .error (p,k)) (hk:k = 50 ∨ k = 71) (hp:p ≤ Z.length):RdO (Z.take p) depth = .error (p,50) ∨ ∃ v q,RdO (Z.take p) depth = .ok (v,q):=by
 rcases RdO_agr hZ (take_byt hZ p) h hk (agr_take hp) with h1 | ⟨-,h1⟩
 ·left
  rw [h1]
  unfold cdY
  rw [if_pos (by rw [List.length_take];omega)]
 ·exact .inr h1
theorem stay_more {Z T:List Int} (hZ:∀ z ∈ Z,0 ≤ z ∧ z ≤ 255) (hT:∀ z ∈ T,0 ≤ z ∧ z ≤ 255) {depth:Int} {p:Nat} {k:Int} (h:RdO Z depth = .error (p,k)) (hk:k = 50 ∨ k = 71) (hp:p < Z.length):RdO (Z.take (p + 1) ++ T) depth = .error (p,k):=by
 have hl:(Z.take (p + 1) ++ T).length ≠ p:=by rw [List.length_append,List.length_take];omega
 rcases RdO_agr hZ (app_byt2 (take_byt hZ (p + 1)) hT) h hk (agr_more hp) with h1 | ⟨h1,-⟩
 ·rw [h1]
  unfold cdY
  rw [if_neg hl]
 ·exact absurd h1 hl
theorem st_eq:Tryz.f5.body = some (.seq (navS (lawF Tryz.f5) [0]) (.seq (navS (lawF Tryz.f5) [1,0]) (.seq (navS (lawF Tryz.f5) [1,1,0]) (.seq (navS (lawF Tryz.f5) [1,1,1,0]) (.seq (navS (lawF Tryz.f5) [1,1,1,1,0]) (.seq (navS (lawF Tryz.f5) [1,1,1,1,1,0]) (.seq (navS (lawF Tryz.f5) [1,1,1,1,1,1,0]) (.seq (navS (lawF Tryz.f5) [1,1,1,1,1,1,1,0]) (navS (lawF Tryz.f5) [1,1,1,1,1,1,1,1]))))))))):=by kernel_rfl
set_option maxHeartbeats 4000000 in
set_option maxRecDepth 6000 in
theorem stay_last {a aw:Option Addr} {n c m cw:Nat} {Z T:List Int} {w X:World} (hX:dcm.Fz X) (B:Below w.heap.size w X) (hrow:Row .u8 X a n c Z) (hrt:Row .u8 X aw m cw T) (hZ:∀ z ∈ Z,0 ≤ z ∧ z ≤ 255) (hT:∀ z ∈ T,0 ≤ z ∧ z ≤ 255) (hnm:n + m ≤ 1049000) {depth:Int} {p:Nat} {k:Int} (hp:p < n) (hR:RdO (Z.take (p + 1) ++ T) depth = .error (p,k)) {t3 t4 t5 t6 t7 t10 t11 t12 t13 t14 t15 t16 t17 t18 t19 t20 t21 t22 t23 t24 t25 t26 t27 t28 t29 t30 t31 t32 t33 t34 t35 t36 t37 t38 t39 t40 t41 t42 t43 t44 t45 t46 t47 t48 t49 t50 t51 t52 t53 t54 t55 t56 t57 t58 t59 t60 t61 t62 t63 t64 t65 t66 t67 t68 t69 t70 t71 t72 t73 t74 t75 t76 t77 t78 t79 t80 t81 t82 t83 t84 t85 t86 t87 t88 t89 t90 t91 t92 t93 t94:Value} :
  (navS (lawF Tryz.f5) [1,1,1,1,1,1,1,1]).wp Tryz.prog (bodyPost Tryz.prog Tryz.f5 (fun x w' => x = .returned (.bool true) ∧ Below w.heap.size w w')) { tmps:=#[.slice a n c,.slice aw m cw,.int .i64 depth,t3,t4,t5,t6,t7,.int .i64 p,.int .i64 k,t10,t11,t12,t13,t14,t15,t16,t17,t18,t19,t20,t21,t22,t23,t24,t25,t26,t27,t28,t29,t30,t31,t32,t33,t34,t35,t36,t37,t38,t39,t40,t41,t42,t43,t44,t45,t46,t47,t48,t49,t50,t51,t52,t53,t54,t55,t56,t57,t58,t59,t60,t61,t62,t63,t64,t65,t66,t67,t68,t69,t70,t71,t72,t73,t74,t75,t76,t77,t78,t79,t80,t81,t82,t83,t84,t85,t86,t87,t88,t89,t90,t91,t92,t93,t94],defers:=[] } X:=by
 have hsf:=storeFJ
 have hzl:=hrow.len
 have htl:=hrt.len
 have hle:=hrow.le
 have hkk:(k == k) = true:=by simp
 have hpc:p + 1 ≤ c:=by omega
 have hpc2:(p:Int) + 1 ≤ c:=by omega
 have hp0:(0:Int) ≤ (p:Int) + 1:=by omega
 have hpn:(p:Int) + 1 ≤ n:=by omega
 have htn:((p:Int) + 1).toNat = p + 1:=by omega
 have hwr:IntKind.i64.wrap ((p:Int) + 1) = (p:Int) + 1:=wrap_in (by omega) (by omega)
 have hbig:¬ 9223372036854775807 < p + 1 + m:=by omega
 have c1:∀ u,Gw X u → (convert 22 9 (.slice a (p + 1) c)).run Tryz.prog u = .ok (.string (strOfNums (Z.take (p + 1)))) u:=fun u h => row_string (row_take (hrow.below h) (by omega)) _ _ _ Tryz.underlying22 Tryz.underlying5 Tryz.underlying9
 have c2:∀ u,Gw X u → (convert 22 9 (.slice aw m cw)).run Tryz.prog u = .ok (.string (strOfNums T)) u:=fun u h => row_string (hrt.below h) _ _ _ Tryz.underlying22 Tryz.underlying5 Tryz.underlying9
 have C1:=hide c1
 have C2:=hide c2
 clear c1 c2
 have s1:(strOfNums (Z.take (p + 1))).size = p + 1:=by rw [strOfNums_size,List.length_take];omega
 have s2:(strOfNums T).size = m:=by rw [strOfNums_size];exact htl
 have BY:=hide (app_byt2 (take_byt hZ (p + 1)) hT)
 have LN:(Z.take (p + 1) ++ T).length = p + 1 + m:=by rw [List.length_append,List.length_take];omega
 simp only [lawF,navS,Tryz.f5,Option.getD_some]
 go_wp2_with fail
 refine wp_region_noPanic ?_
 have hS0:Gw X { X with drawn:=X.drawn + 1 }:=Gw.drew (Below.refl _ _)
 refine wp_region_held (S:=Gw X) mixedJ ?_
 refine rgn.tl (i:=0) (v:=?v1) rfl (by kernel_rfl) (fun _ _ _ h => h) (by rfl) ?hy1 hS0 ?_
 case hy1 => (intro w' hw';clear hw';go_simp;try with_reducible rfl)
 simp only [zA,zB,zC,Act.put,zD,zE,zF]
 refine rgn.tl (i:=1) (v:=?v2) rfl (by kernel_rfl) (fun _ _ _ h => h) (by rfl) ?hy2 hS0 ?_
 case hy2 => (intro w' hw';clear hw';go_simp;try with_reducible rfl)
 simp only [zA,zB,zC,Act.put,zD,zE,zF]
 refine rgn.tl (i:=2) (v:=?v3) rfl (by kernel_rfl) (fun _ _ _ h => h) (by rfl) ?hy3 hS0 ?_
 case hy3 => (intro w' hw';clear hw';go_simp;try with_reducible rfl)
 simp only [zA,zB,zC,Act.put,zD,zE,zF]
 refine rgn.tl (i:=3) (v:=?v4) rfl (by kernel_rfl) (fun _ _ _ h => h) (by rfl) ?hy4 hS0 ?_
 case hy4 => (intro w' hw';clear hw';go_simp;try with_reducible rfl)
 simp only [zA,zB,zC,Act.put,zD,zE,zF]
 refine rgn.tl (i:=4) (v:=?v5) rfl (by kernel_rfl) (fun _ _ _ h => h) (by rfl) ?hy5 hS0 ?_
 case hy5 => (intro w' hw';have h4:=(unhide C1) _ hw';go_simp;try with_reducible rfl)
 simp only [zA,zB,zC,Act.put,zD,zE,zF]
 refine rgn.tl (i:=5) (v:=?v6) rfl (by kernel_rfl) (fun _ _ _ h => h) (by rfl) ?hy6 hS0 ?_
 case hy6 => (intro w' hw';clear hw';go_simp;try with_reducible rfl)
 simp only [zA,zB,zC,Act.put,zD,zE,zF]
 refine rgn.tl (i:=6) (v:=?v7) rfl (by kernel_rfl) (fun _ _ _ h => h) (by rfl) ?hy7 hS0 ?_
 case hy7 => (intro w' hw';have h6:=(unhide C2) _ hw';go_simp;try with_reducible rfl)
 simp only [zA,zB,zC,Act.put,zD,zE,zF]
 refine rgn.tl (i:=7) (v:=?v8) rfl (by kernel_rfl) (fun _ _ _ h => h) (by rfl) ?hy8 hS0 ?_
 case hy8 => (intro w' hw';clear hw';go_simp;try with_reducible rfl)
 simp only [zA,zB,zC,Act.put,zD,zE,zF]
 refine rgn.tl (i:=9) (v:=?v9) rfl (by kernel_rfl) (fun _ _ _ h => h) (by rfl) ?hy9 hS0 ?_
 case hy9 => (intro w' hw';clear hw';go_simp;try with_reducible rfl)
 simp only [zA,zB,zC,Act.put,zD,zE,zF]
 obtain ⟨cap,X8,hcv,hr8,b8,lt8⟩:=conv_bytes (strOfNums (Z.take (p + 1)) ++ strOfNums T) X.drew
 have hr8:Row .u8 X8 (some ⟨X.heap.size,0,none⟩) (p + 1 + m) cap (Z.take (p + 1) ++ T):=by
  rw [str_app,bytZ_str (unhide BY),strOfNums_size,LN] at hr8
  exact hr8
 have hS8:Gw X X8:=hS0.trans (b8.mono hS0.size)
 have HCV:=hide hcv
 clear hcv
 refine rgn.one (i:=8) _ rfl (by kernel_rfl) (by rfl) ?_
 simp only [zA,zB,zC,Act.put,zD,zE,zF]
 go_wp2_with fail
 rw [unhide HCV]
 simp only [Result.andThen,Oper.upon]
 refine ⟨hS8,?_⟩
 clear hS0 lt8 HCV
 have hS0:=hS8
 refine rgn.one (i:=10) _ rfl (by kernel_rfl) (by rfl) ?_
 simp only [zA,zB,zC,Act.put,zD,zE,zF]
 go_wp2_with fail
 refine (read_few (unhide BY) (by omega) (hX.below hS8) depth hr8).mono ?_
 rintro x w9 ⟨⟨cs,rfl,fv⟩,b9⟩
 rw [hR] at fv ⊢
 simp only [rdA,rdE]
 have hS9:Gw X w9:=hS8.trans (b9.mono hS8.size)
 clear hS0 hr8 fv
 have hS0:=hS9
 refine ⟨hS9,?_⟩
 refine rgn.tl (i:=11) (v:=?v10) rfl (by kernel_rfl) (fun _ _ _ h => h) (by rfl) ?hy10 hS0 ?_
 case hy10 => (intro w' hw';clear hw';go_simp;try with_reducible rfl)
 simp only [zA,zB,zC,Act.put,zD,zE,zF]
 refine rgn.tl (i:=12) (v:=?v11) rfl (by kernel_rfl) (fun _ _ _ h => h) (by rfl) ?hy11 hS0 ?_
 case hy11 => (intro w' hw';clear hw';go_simp;try with_reducible rfl)
 simp only [zA,zB,zC,Act.put,zD,zE,zF]
 refine rgn.tl (i:=13) (v:=?v12) rfl (by kernel_rfl) (fun _ _ _ h => h) (by rfl) ?hy12 hS0 ?_
 case hy12 => (intro w' hw';clear hw';go_simp;try with_reducible rfl)
 simp only [zA,zB,zC,Act.put,zD,zE,zF]
 refine rgn.tl (i:=14) (v:=?v13) rfl (by kernel_rfl) (fun _ _ _ h => h) (by rfl) ?hy13 hS0 ?_
 case hy13 => (intro w' hw';clear hw';go_simp;try with_reducible rfl)
 simp only [zA,zB,zC,Act.put,zD,zE,zF]
 refine rgn.tl (i:=15) (v:=?v14) rfl (by kernel_rfl) (fun _ _ _ h => h) (by rfl) ?hy14 hS0 ?_
 case hy14 => (intro w' hw';clear hw';go_simp;try with_reducible rfl)
 simp only [zA,zB,zC,Act.put,zD,zE,zF]
 refine rgn.tl (i:=16) (v:=?v15) rfl (by kernel_rfl) (fun _ _ _ h => h) (by rfl) ?hy15 hS0 ?_
 case hy15 => (intro w' hw';clear hw';go_simp;try with_reducible rfl)
 simp only [zA,zB,zC,Act.put,zD,zE,zF]
 refine wpAnyH_done (by kernel_rfl) ?_ _;refine NoPanic.normal ?_
 have B9:Below w.heap.size w w9:=B.trans (Below.mono hS9 B.size)
 clear hS0
 go_wp2
 go_ret
 exact ⟨rfl,B9⟩
set_option maxHeartbeats 4000000 in
set_option maxRecDepth 6000 in
theorem law_stays {a aw:Option Addr} {n c m cw:Nat} {Z T:List Int} (w:World) (hW:dcm.Fz w) (hrow:Row .u8 w a n c Z) (hrt:Row .u8 w aw m cw T) (hZ:∀ z ∈ Z,0 ≤ z ∧ z ≤ 255) (hT:∀ z ∈ T,0 ≤ z ∧ z ≤ 255) (hnm:n + m ≤ 1049000) (depth:Int) :
  Calls Tryz.prog 5 #[.slice a n c,.slice aw m cw,.int .i64 depth] w fun e w' => e = .returned (.bool true) ∧ Below w.heap.size w w':=by
 have hsf:=storeFJ
 have hzl:=hrow.len
 have htl:=hrt.len
 have hle:=hrow.le
 refine calls_of_wp Tryz.func5 st_eq ?_
 obtain ⟨REST,hREST⟩:∃ R,R = navS (lawF Tryz.f5) [1,1,1,1,1,1,1,1]:=⟨_,rfl⟩
 rw [← hREST]
 have HREST:=hide hREST
 clear hREST
 simp only [lawF,navS,Tryz.f5,Option.getD_some]
 simp only [Tryz.ntmps5,List.size_toArray,List.length_cons,List.length_nil,Nat.reduceAdd,Nat.reduceSub,Array.replicate_succ,Array.replicate_zero,List.push_toArray,List.append_toArray,List.nil_append,List.cons_append]
 go_wp2_with fail
 refine (fixed_ok w hW).mono ?_
 rintro e w1 ⟨rfl,B1⟩
 go_wp2_with fail
 refine (read_few hZ (by omega) (hW.below B1) depth (hrow.below B1)).mono ?_
 rintro x w2 ⟨⟨cs,rfl,fv⟩,b2⟩
 have B2:Below w.heap.size w w2:=B1.trans (b2.mono B1.size)
 clear b2
 obtain ⟨kd1,bb1,m1,f1,tx1,ty1,ai1,ni1,ci1,af1,nf1,cf1,rfl⟩:=VlC.form fv.read
 clear fv
 obtain ⟨R1,hR1⟩:∃ R,R = RdO Z depth:=⟨_,rfl⟩
 rw [← hR1]
 cases R1 with
 | ok b =>
  simp only [rdA,rdE]
  go_wp2
  go_ret
  exact ⟨rfl,B2.alloc B2.size _⟩
 | error b =>
  obtain ⟨p,k⟩:=b
  obtain ⟨hp,-,h71⟩:=RdO_err hR1.symm
  simp only at hp h71
  simp only [rdA,rdE]
  by_cases hk:k = 50 ∨ k = 71
  ·have HD:=hide (stay_head hZ hR1.symm hk hp)
   have HM:=hide (fun (h:p < Z.length) => stay_more hZ hT hR1.symm hk h)
   have hkn:k = 71 → p ≠ n:=fun h => by have:=(h71 h).1;omega
   clear hR1
   obtain ⟨W2,eW2⟩:∃ W',W' = w2.alloc (.cells #[.int .i64 kd1,.bool bb1,.int .i64 m1,.float .f64 f1,.string tx1,.string ty1,.slice ai1 ni1 ci1,.slice af1 nf1 cf1] 29):=⟨_,rfl⟩
   have gW2:Below w2.heap.size w2 W2:=by rw [eW2];exact (Below.refl _ _).alloc (Nat.le_refl _) _
   have B3:Below w.heap.size w W2:=B2.trans (gW2.mono B2.size)
   have EW2:=hide eW2
   clear eW2
   have h1:=row_string (row_take (hrow.below B3) (i:=p) (by omega)) _ _ _ Tryz.underlying22 Tryz.underlying5 Tryz.underlying9
   have hlp:(Z.take p).length = p:=by rw [List.length_take];omega
   obtain ⟨cap,X4,hcv,hr4,b4,lt4⟩:=conv_bytes (strOfNums (Z.take p)) W2
   have hsz:(strOfNums (Z.take p)).size = p:=by rw [strOfNums_size,hlp]
   have hr4:Row .u8 X4 (some ⟨W2.heap.size,0,none⟩) p cap (Z.take p):=by
    rw [bytZ_str (take_byt hZ p),hsz] at hr4
    exact hr4
   have pn:(p:Int) ≤ n:=by omega
   clear lt4
   have B4:Below w.heap.size w X4:=B3.trans (b4.mono B3.size)
   by_cases hpn:p = n
   ·have hk50:k = 50:=by
     rcases hk with h | h
     ·exact h
     ·exact absurd hpn (hkn h)
    subst hk50
    subst hpn
    go_wp2_with fail
    rw [← unhide EW2,h1]
    go_wp2_with fail
    clear h1 hcv EW2
    refine (read_few (take_byt hZ p) (by omega) (hW.below B4) depth hr4).mono ?_
    rintro x w5 ⟨⟨cs,rfl,fv⟩,b5⟩
    have B5:Below w.heap.size w w5:=B4.trans (b5.mono B4.size)
    clear hr4 b5 b4
    rcases unhide HD with hd | ⟨v,q,hd⟩
    ·rw [hd] at fv ⊢
     simp only [rdA,rdE]
     obtain ⟨kd2,bb2,m2,f2,tx2,ty2,ai2,ni2,ci2,af2,nf2,cf2,rfl⟩:=VlC.form fv.read
     clear fv hd
     go_wp2
     go_ret
     exact ⟨rfl,B5.alloc B5.size _⟩
    ·rw [hd] at fv ⊢
     simp only [rdA,rdE]
     obtain ⟨kd2,bb2,m2,f2,tx2,ty2,ai2,ni2,ci2,af2,nf2,cf2,rfl⟩:=VlC.form fv.read
     clear fv hd
     go_wp2
     go_ret
     exact ⟨rfl,B5.alloc B5.size _⟩
   ·have hpi:(p:Int) < n:=by omega
    have hpb:((p:Int) == n) = false:=by simp;omega
    have hplt:p < Z.length:=by omega
    rcases hk with rfl | rfl
    all_goals
     go_wp2_with fail
     rw [← unhide EW2,h1]
     go_wp2_with fail
     clear h1 hcv EW2
     refine (read_few (take_byt hZ p) (by omega) (hW.below B4) depth hr4).mono ?_
     rintro x w5 ⟨⟨cs,rfl,fv⟩,b5⟩
     have B5:Below w.heap.size w w5:=B4.trans (b5.mono B4.size)
     clear hr4 b5 b4
     have HMM:=hide (unhide HM hplt)
     rcases unhide HD with hd | ⟨v,q,hd⟩
     all_goals
      rw [hd] at fv ⊢
      simp only [rdA,rdE]
      obtain ⟨kd2,bb2,m2,f2,tx2,ty2,ai2,ni2,ci2,af2,nf2,cf2,rfl⟩:=VlC.form fv.read
      clear fv hd
      have B6:=B5.alloc B5.size (.cells #[.int .i64 kd2,.bool bb2,.int .i64 m2,.float .f64 f2,.string tx2,.string ty2,.slice ai2 ni2 ci2,.slice af2 nf2 cf2] 29)
      go_wp2_with fail
      rw [unhide HREST]
      exact stay_last (hW.below B6) B6 (hrow.below B6) (hrt.below B6) hZ hT hnm (by omega) (unhide HMM)
  ·have k1:(k != 50) = true:=by simp;intro h;exact hk (.inl h)
   have k2:(k != 71) = true:=by simp;intro h;exact hk (.inr h)
   go_wp2
   go_ret
   exact ⟨rfl,B2.alloc B2.size _⟩
end Go.Proofs.YtdogjghalplohaaGreatDoor.jin
