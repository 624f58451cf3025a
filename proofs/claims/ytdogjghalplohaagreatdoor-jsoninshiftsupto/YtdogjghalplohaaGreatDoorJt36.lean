import Derived.Test.YtdogjghalplohaaGreatDoorJt35
set_option linter.unusedVariables false
set_option linter.unusedSimpArgs false
namespace Go.Proofs.YtdogjghalplohaaGreatDoor.jin
open Go.ChangeShapes Go.WideShapes Go.ChangeAt Go.RowKit
open mem Go.Maps
open vl (Vl Vls Fls VlC VlsAt FlsAt Row8 Small SmallI SmallF infoV)
open ints (Hi uh hexV)
/-- a piece of a function's code -/
def navS:Code→List Nat→Code
  | c,[]=>c
  | .seq a _,0::r=>navS a r
  | .seq _ b,1::r=>navS b r
  | .cond _ a _,0::r=>navS a r
  | .cond _ _ b,1::r=>navS b r
  | .block _ a,0::r=>navS a r
  | .loop a,0::r=>navS a r
  | c,_=>c
def lawF(f:Func):Code:=f.body.getD .skip
set_option maxHeartbeats 8000000 in
set_option maxRecDepth 6000 in
theorem sh_last{w X:World}{v:Vl}(hA:Alk v)(B:Below w.heap.size w X){Bl Bo Bv p off cl q oq co:Nat}{cs us0 us1 us2:List Value}(HV0:VlC X v cs)(RV0:Row8 X Bv 0 cs)
    (k0:X.cell? ⟨Bl,0,none⟩=some (.int .i64 5)) (k6:X.cell? ⟨Bl,6,none⟩=some (.slice (some ⟨p,off,none⟩) 2 cl)) (h0:Row8 X p off us0) (v0:VlC X v us0) (h1:Row8 X p (off+8) us1) (v1:VlC X v us1)
    (o0:X.cell? ⟨Bo,0,none⟩=some (.int .i64 6)) (o7:X.cell? ⟨Bo,7,none⟩=some (.slice (some ⟨q,oq,none⟩) 1 co)) (nm:X.cell? ⟨q,oq,none⟩=some (.string ⟨#[107]⟩)) (h2:Row8 X q (oq+1) us2) (v2:VlC X v us2) {t0 t1 t2 t3 t4 t5 t6 t7 t8 t10 t11 t12 t13 t15 t17 t19 t21 t22 t23 t24 t25 t26 t27 t28 t29 t30 t31 t32 t33 t34 t35 t36 t37 t38 t39 t40 t41 t42 t43 t44 t45 t46 t47 t48 t49 t50 t51 t52 t53 t54 t55 t56 t57 t58 t59 t60 t61 t62 t63 t64 t65 t66 t67 t68 t69 t70 t71 t72 t73 t74 t75 t76 t77 t78 t79 t80 t81 t82 t83 t84 t85 t86 t87 t88 t89 t90 t91 t92 t93 t94 t95 t96 t97 t98 t99 t100 t101 t102 t103 t104 t105 t106 t107 t108 t109 t110 t111 t112 t113 t114 t115 t116 t117 t118 t119 t120 t121 t122 t123 t124 t125 t126 t127 t128 t129 t130 t131 t132 t133 t134 t135 t136 t137 t138 t139 t140 t141 t142 t143 t144 t145 t146 t147 t148 t149 t150 t151 t152 t153 t154 t155 t156 t157 t158 t159 t160 t161 t162 t163 t164 t165 t166 t167 t168 t169 t170 t171 t172 t173 t174 t175 t176 t177 t178 t179 t180 t181 t182 t183 t184 t185 t186 t187 t188 t189 t190 t191 t192 t193 t194 t195 t196 t197 t198 t199 t200 t201 t202 t203 t204 t205 t206 t207 t208 t209 t210 t211 t212 t213 t214 t215 t216 t217 t218 t219 t220 t221:Value} :
    (navS (lawF Tryz.f4) [1,1,1,1,1,1,1,1,1,1,1,1,1,1,1]).wp Tryz.prog (bodyPost Tryz.prog Tryz.f4 (fun x w'=>x = .returned (.bool true)∧Below w.heap.size w w')) { tmps:=#[t0,t1,t2,t3,t4,t5,t6,t7,t8,.pointer (some ⟨Bv,0,none⟩),t10,t11,t12,t13,.int .i64 0,t15,.pointer (some ⟨Bl,0,none⟩),t17,.pointer (some ⟨Bo,0,none⟩),t19,.int .i64 0,t21,t22,t23,t24,t25,t26,t27,t28,t29,t30,t31,t32,t33,t34,t35,t36,t37,t38,t39,t40,t41,t42,t43,t44,t45,t46,t47,t48,t49,t50,t51,t52,t53,t54,t55,t56,t57,t58,t59,t60,t61,t62,t63,t64,t65,t66,t67,t68,t69,t70,t71,t72,t73,t74,t75,t76,t77,t78,t79,t80,t81,t82,t83,t84,t85,t86,t87,t88,t89,t90,t91,t92,t93,t94,t95,t96,t97,t98,t99,t100,t101,t102,t103,t104,t105,t106,t107,t108,t109,t110,t111,t112,t113,t114,t115,t116,t117,t118,t119,t120,t121,t122,t123,t124,t125,t126,t127,t128,t129,t130,t131,t132,t133,t134,t135,t136,t137,t138,t139,t140,t141,t142,t143,t144,t145,t146,t147,t148,t149,t150,t151,t152,t153,t154,t155,t156,t157,t158,t159,t160,t161,t162,t163,t164,t165,t166,t167,t168,t169,t170,t171,t172,t173,t174,t175,t176,t177,t178,t179,t180,t181,t182,t183,t184,t185,t186,t187,t188,t189,t190,t191,t192,t193,t194,t195,t196,t197,t198,t199,t200,t201,t202,t203,t204,t205,t206,t207,t208,t209,t210,t211,t212,t213,t214,t215,t216,t217,t218,t219,t220,t221],defers:=[] } X:=by
  have AL:=Hi hA
  have sz:∀ {us:List Value} {u:Vl},VlC X u us→(Tryz.prog.info? 29).map (·.size)=some us.length:=fun h=>by rw[h.cells];exact infoV
  have I0:=Hi (sz v0)
  have I1:=Hi (sz v1)
  have I2:=Hi (sz v2)
  have IV:=Hi (sz HV0)
  have HV:=Hi HV0
  have V0:=Hi v0
  have V1:=Hi v1
  have V2:=Hi v2
  have R0:=Hi h0
  have R1:=Hi h1
  have R2:=Hi h2
  have RV:=Hi RV0
  have sx:=str_self ⟨#[107]⟩
  have hS0:Gw X { X with drawn:=X.drawn+1 }∧({ X with drawn:=X.drawn+1 }:World).cell? ⟨Bl,0,none⟩=some (.int .i64 5)∧({ X with drawn:=X.drawn+1 }:World).cell? ⟨Bl,6,none⟩=some (.slice (some ⟨p,off,none⟩) 2 cl)∧({ X with drawn:=X.drawn+1 }:World).cell? ⟨Bo,0,none⟩=some (.int .i64 6)∧({ X with drawn:=X.drawn+1 }:World).cell? ⟨Bo,7,none⟩=some (.slice (some ⟨q,oq,none⟩) 1 co)∧({ X with drawn:=X.drawn+1 }:World).cell? ⟨q,oq,none⟩=some (.string ⟨#[107]⟩):=⟨Gw.drew (Below.refl _ _),k0,k6,o0,o7,nm⟩
  have mkS:∀ w',Gw X w'→Gw X w'∧w'.cell? ⟨Bl,0,none⟩=some (.int .i64 5)∧w'.cell? ⟨Bl,6,none⟩=some (.slice (some ⟨p,off,none⟩) 2 cl)∧w'.cell? ⟨Bo,0,none⟩=some (.int .i64 6)∧w'.cell? ⟨Bo,7,none⟩=some (.slice (some ⟨q,oq,none⟩) 1 co)∧w'.cell? ⟨q,oq,none⟩=some (.string ⟨#[107]⟩):=fun w' h=>⟨h,cellB h k0,cellB h k6,cellB h o0,cellB h o7,cellB h nm⟩
  have MK:=Hi mkS
  clear mkS k0 k6 o0 o7 nm h0 h1 h2 v0 v1 v2 HV0 RV0 hA sz
  simp only[lawF,navS,Tryz.f4,Option.getD_some]
  go_wp2_with fail
  refine wp_region_noPanic ?_
  refine wp_region_held (S:=fun w'=>Gw X w'∧w'.cell? ⟨Bl,0,none⟩=some (.int .i64 5)∧w'.cell? ⟨Bl,6,none⟩=some (.slice (some ⟨p,off,none⟩) 2 cl)∧w'.cell? ⟨Bo,0,none⟩=some (.int .i64 6)∧w'.cell? ⟨Bo,7,none⟩=some (.slice (some ⟨q,oq,none⟩) 1 co)∧w'.cell? ⟨q,oq,none⟩=some (.string ⟨#[107]⟩)) mixedJ ?_
  refine rgn.tl (i:=0) (v:=?v1) rfl (by kernel_rfl) (fun _ _ _ h=>h) (by rfl) ?hy1 hS0 ?_
  case hy1=>(intro w' hw';obtain⟨hb',k0,k6,o0,o7,nm⟩:=hw';clear hb';go_simp;try with_reducible rfl)
  simp only[zA,zB,zC,Act.put,zD,zE,zF]
  refine rgn.tl (i:=1) (v:=?v2) rfl (by kernel_rfl) (fun _ _ _ h=>h) (by rfl) ?hy2 hS0 ?_
  case hy2=>(intro w' hw';obtain⟨hb',k0,k6,o0,o7,nm⟩:=hw';clear hb';go_simp;try with_reducible rfl)
  simp only[zA,zB,zC,Act.put,zD,zE,zF]
  refine rgn.tl (i:=2) (v:=?v3) rfl (by kernel_rfl) (fun _ _ _ h=>h) (by rfl) ?hy3 hS0 ?_
  case hy3=>(intro w' hw';obtain⟨hb',k0,k6,o0,o7,nm⟩:=hw';clear hb';go_simp;try with_reducible rfl)
  simp only[zA,zB,zC,Act.put,zD,zE,zF]
  refine rgn.tl (i:=3) (v:=?v4) rfl (by kernel_rfl) (fun _ _ _ h=>h) (by rfl) ?hy4 hS0 ?_
  case hy4=>(intro w' hw';obtain⟨hb',k0,k6,o0,o7,nm⟩:=hw';clear hb';go_simp;try with_reducible rfl)
  simp only[zA,zB,zC,Act.put,zD,zE,zF]
  refine rgn.tl (i:=4) (v:=?v5) rfl (by kernel_rfl) (fun _ _ _ h=>h) (by rfl) ?hy5 hS0 ?_
  case hy5=>(intro w' hw';obtain⟨hb',k0,k6,o0,o7,nm⟩:=hw';clear hb';go_simp;try with_reducible rfl)
  simp only[zA,zB,zC,Act.put,zD,zE,zF]
  refine rgn.tl (i:=5) (v:=?v6) rfl (by kernel_rfl) (fun _ _ _ h=>h) (by rfl) ?hy6 hS0 ?_
  case hy6=>(intro w' hw';obtain⟨hb',k0,k6,o0,o7,nm⟩:=hw';clear hb';go_simp;try with_reducible rfl)
  simp only[zA,zB,zC,Act.put,zD,zE,zF]
  refine rgn.tl (i:=6) (v:=?v7) rfl (by kernel_rfl) (fun _ _ _ h=>h) (by rfl) ?hy7 hS0 ?_
  case hy7=>(intro w' hw';obtain⟨hb',k0,k6,o0,o7,nm⟩:=hw';clear hb';go_simp;try with_reducible rfl)
  simp only[zA,zB,zC,Act.put,zD,zE,zF]
  refine rgn.tl (i:=7) (v:=?v8) rfl (by kernel_rfl) (fun _ _ _ h=>h) (by rfl) ?hy8 hS0 ?_
  case hy8=>(intro w' hw';obtain⟨hb',k0,k6,o0,o7,nm⟩:=hw';clear hb';go_simp;try with_reducible rfl)
  simp only[zA,zB,zC,Act.put,zD,zE,zF]
  refine rgn.tl (i:=8) (v:=?v9) rfl (by kernel_rfl) (fun _ _ _ h=>h) (by rfl) ?hy9 hS0 ?_
  case hy9=>(intro w' hw';obtain⟨hb',k0,k6,o0,o7,nm⟩:=hw';clear hb';go_simp;try with_reducible rfl)
  simp only[zA,zB,zC,Act.put,zD,zE,zF]
  refine rgn.tl (i:=9) (v:=?v10) rfl (by kernel_rfl) (fun _ _ _ h=>h) (by rfl) ?hy10 hS0 ?_
  case hy10=>(intro w' hw';obtain⟨hb',k0,k6,o0,o7,nm⟩:=hw';clear hb';go_simp;try with_reducible rfl)
  simp only[zA,zB,zC,Act.put,zD,zE,zF]
  refine rgn.tl (i:=10) (v:=?v11) rfl (by kernel_rfl) (fun _ _ _ h=>h) (by rfl) ?hy11 hS0 ?_
  case hy11=>(intro w' hw';obtain⟨hb',k0,k6,o0,o7,nm⟩:=hw';clear hb';go_simp;try with_reducible rfl)
  simp only[zA,zB,zC,Act.put,zD,zE,zF]
  refine rgn.tl (i:=11) (v:=?v12) rfl (by kernel_rfl) (fun _ _ _ h=>h) (by rfl) ?hy12 hS0 ?_
  case hy12=>(intro w' hw';obtain⟨hb',k0,k6,o0,o7,nm⟩:=hw';clear hb';go_simp;try with_reducible rfl)
  simp only[zA,zB,zC,Act.put,zD,zE,zF]
  refine rgn.tl (i:=12) (v:=?v13) rfl (by kernel_rfl) (fun _ _ _ h=>h) (by rfl) ?hy13 hS0 ?_
  case hy13=>(intro w' hw';obtain⟨hb',k0,k6,o0,o7,nm⟩:=hw';clear hb';go_simp;try with_reducible rfl)
  simp only[zA,zB,zC,Act.put,zD,zE,zF]
  refine rgn.tl (i:=13) (v:=?v14) rfl (by kernel_rfl) (fun _ _ _ h=>h) (by rfl) ?hy14 hS0 ?_
  case hy14=>(intro w' hw';obtain⟨hb',k0,k6,o0,o7,nm⟩:=hw';clear hb';go_simp;try with_reducible rfl)
  simp only[zA,zB,zC,Act.put,zD,zE,zF]
  refine rgn.tl (i:=14) (v:=?v15) rfl (by kernel_rfl) (fun _ _ _ h=>h) (by rfl) ?hy15 hS0 ?_
  case hy15=>(intro w' hw';obtain⟨hb',k0,k6,o0,o7,nm⟩:=hw';clear hb';go_simp;try with_reducible rfl)
  simp only[zA,zB,zC,Act.put,zD,zE,zF]
  refine rgn.tl (i:=15) (v:=?v16) rfl (by kernel_rfl) (fun _ _ _ h=>h) (by rfl) ?hy16 hS0 ?_
  case hy16=>(intro w' hw';obtain⟨hb',k0,k6,o0,o7,nm⟩:=hw';clear hb';go_simp;try with_reducible rfl)
  simp only[zA,zB,zC,Act.put,zD,zE,zF]
  refine rgn.tl (i:=16) (v:=?v17) rfl (by kernel_rfl) (fun _ _ _ h=>h) (by rfl) ?hy17 hS0 ?_
  case hy17=>(intro w' hw';obtain⟨hb',k0,k6,o0,o7,nm⟩:=hw';clear hb';go_simp;try with_reducible rfl)
  simp only[zA,zB,zC,Act.put,zD,zE,zF]
  refine rgn.tl (i:=17) (v:=?v18) rfl (by kernel_rfl) (fun _ _ _ h=>h) (by rfl) ?hy18 hS0 ?_
  case hy18=>(intro w' hw';obtain⟨hb',k0,k6,o0,o7,nm⟩:=hw';clear hb';go_simp;try with_reducible rfl)
  simp only[zA,zB,zC,Act.put,zD,zE,zF]
  refine rgn.tl (i:=18) (v:=?v19) rfl (by kernel_rfl) (fun _ _ _ h=>h) (by rfl) ?hy19 hS0 ?_
  case hy19=>(intro w' hw';obtain⟨hb',k0,k6,o0,o7,nm⟩:=hw';clear hb';go_simp;try with_reducible rfl)
  simp only[zA,zB,zC,Act.put,zD,zE,zF]
  refine rgn.tl (i:=19) (v:=?v20) rfl (by kernel_rfl) (fun _ _ _ h=>h) (by rfl) ?hy20 hS0 ?_
  case hy20=>(intro w' hw';obtain⟨hb',k0,k6,o0,o7,nm⟩:=hw';clear hb';go_simp;try with_reducible rfl)
  simp only[zA,zB,zC,Act.put,zD,zE,zF]
  refine rgn.tl (i:=20) (v:=?v21) rfl (by kernel_rfl) (fun _ _ _ h=>h) (by rfl) ?hy21 hS0 ?_
  case hy21=>(intro w' hw';obtain⟨hb',k0,k6,o0,o7,nm⟩:=hw';clear hb';go_simp;try with_reducible rfl)
  simp only[zA,zB,zC,Act.put,zD,zE,zF]
  refine rgn.tk (i:=21) rfl (by kernel_rfl) (fun _ _ _ h=>h) (yieldsIf_load_mid (by rfl) 29 _ (by rfl) p (off) (by rfl) us0 _ (fun w' hw'=>Row8.below (uh R0) hw'.1) Tryz.underlying29 (by rfl) (uh I0)) hS0 ?_
  simp only[zA,zB,zC,Act.put,zD,zE,zF]
  refine rgn.tk (i:=22) rfl (by kernel_rfl) (fun _ _ _ h=>h) (yieldsIf_load_mid (by rfl) 29 _ (by rfl) Bv (0) (by rfl) cs _ (fun w' hw'=>Row8.below (uh RV) hw'.1) Tryz.underlying29 (by rfl) (uh IV)) hS0 ?_
  simp only[zA,zB,zC,Act.put,zD,zE,zF]
  refine rgn.one (i:=23) _ rfl (by kernel_rfl) (by rfl) ?_
  simp only[zA,zB,zC,Act.put,zD,zE,zF]
  go_wp2_with fail
  refine ((uh AL) us0 cs _ (VlC.below hS0.1 _ _ (uh V0)) (VlC.below hS0.1 _ _ (uh HV))).mono ?_
  rintro e w3 ⟨rfl,g3⟩
  have hS0:=(uh MK) w3 (hS0.1.trans (g3.mono hS0.1.size))
  refine⟨hS0,?_⟩
  obtain⟨hb,-⟩:=hS0
  have hS0:=(uh MK) w3 hb
  clear g3
  refine rgn.tl (i:=24) (v:=?v22) rfl (by kernel_rfl) (fun _ _ _ h=>h) (by rfl) ?hy22 hS0 ?_
  case hy22=>(intro w' hw';obtain⟨hb',k0,k6,o0,o7,nm⟩:=hw';clear hb';go_simp;try with_reducible rfl)
  simp only[zA,zB,zC,Act.put,zD,zE,zF]
  refine rgn.tl (i:=25) (v:=?v23) rfl (by kernel_rfl) (fun _ _ _ h=>h) (by rfl) ?hy23 hS0 ?_
  case hy23=>(intro w' hw';obtain⟨hb',k0,k6,o0,o7,nm⟩:=hw';clear hb';go_simp;try with_reducible rfl)
  simp only[zA,zB,zC,Act.put,zD,zE,zF]
  refine rgn.tl (i:=26) (v:=?v24) rfl (by kernel_rfl) (fun _ _ _ h=>h) (by rfl) ?hy24 hS0 ?_
  case hy24=>(intro w' hw';obtain⟨hb',k0,k6,o0,o7,nm⟩:=hw';clear hb';go_simp;try with_reducible rfl)
  simp only[zA,zB,zC,Act.put,zD,zE,zF]
  refine rgn.tl (i:=27) (v:=?v25) rfl (by kernel_rfl) (fun _ _ _ h=>h) (by rfl) ?hy25 hS0 ?_
  case hy25=>(intro w' hw';obtain⟨hb',k0,k6,o0,o7,nm⟩:=hw';clear hb';go_simp;try with_reducible rfl)
  simp only[zA,zB,zC,Act.put,zD,zE,zF]
  refine rgn.tl (i:=28) (v:=?v26) rfl (by kernel_rfl) (fun _ _ _ h=>h) (by rfl) ?hy26 hS0 ?_
  case hy26=>(intro w' hw';obtain⟨hb',k0,k6,o0,o7,nm⟩:=hw';clear hb';go_simp;try with_reducible rfl)
  simp only[zA,zB,zC,Act.put,zD,zE,zF]
  refine rgn.tk (i:=29) rfl (by kernel_rfl) (fun _ _ _ h=>h) (yieldsIf_load_mid (by rfl) 29 _ (by rfl) p (off+8) (by rfl) us1 _ (fun w' hw'=>Row8.below (uh R1) hw'.1) Tryz.underlying29 (by rfl) (uh I1)) hS0 ?_
  simp only[zA,zB,zC,Act.put,zD,zE,zF]
  refine rgn.tk (i:=30) rfl (by kernel_rfl) (fun _ _ _ h=>h) (yieldsIf_load_mid (by rfl) 29 _ (by rfl) Bv (0) (by rfl) cs _ (fun w' hw'=>Row8.below (uh RV) hw'.1) Tryz.underlying29 (by rfl) (uh IV)) hS0 ?_
  simp only[zA,zB,zC,Act.put,zD,zE,zF]
  refine rgn.one (i:=31) _ rfl (by kernel_rfl) (by rfl) ?_
  simp only[zA,zB,zC,Act.put,zD,zE,zF]
  go_wp2_with fail
  refine ((uh AL) us1 cs _ (VlC.below hS0.1 _ _ (uh V1)) (VlC.below hS0.1 _ _ (uh HV))).mono ?_
  rintro e w3 ⟨rfl,g3⟩
  have hS0:=(uh MK) w3 (hS0.1.trans (g3.mono hS0.1.size))
  refine⟨hS0,?_⟩
  obtain⟨hb,-⟩:=hS0
  have hS0:=(uh MK) w3 hb
  clear g3
  refine rgn.tl (i:=32) (v:=?v27) rfl (by kernel_rfl) (fun _ _ _ h=>h) (by rfl) ?hy27 hS0 ?_
  case hy27=>(intro w' hw';obtain⟨hb',k0,k6,o0,o7,nm⟩:=hw';clear hb';go_simp;try with_reducible rfl)
  simp only[zA,zB,zC,Act.put,zD,zE,zF]
  refine rgn.tl (i:=33) (v:=?v28) rfl (by kernel_rfl) (fun _ _ _ h=>h) (by rfl) ?hy28 hS0 ?_
  case hy28=>(intro w' hw';obtain⟨hb',k0,k6,o0,o7,nm⟩:=hw';clear hb';go_simp;try with_reducible rfl)
  simp only[zA,zB,zC,Act.put,zD,zE,zF]
  refine rgn.tl (i:=34) (v:=?v29) rfl (by kernel_rfl) (fun _ _ _ h=>h) (by rfl) ?hy29 hS0 ?_
  case hy29=>(intro w' hw';obtain⟨hb',k0,k6,o0,o7,nm⟩:=hw';clear hb';go_simp;try with_reducible rfl)
  simp only[zA,zB,zC,Act.put,zD,zE,zF]
  refine rgn.tl (i:=35) (v:=?v30) rfl (by kernel_rfl) (fun _ _ _ h=>h) (by rfl) ?hy30 hS0 ?_
  case hy30=>(intro w' hw';obtain⟨hb',k0,k6,o0,o7,nm⟩:=hw';clear hb';go_simp;try with_reducible rfl)
  simp only[zA,zB,zC,Act.put,zD,zE,zF]
  refine rgn.tl (i:=36) (v:=?v31) rfl (by kernel_rfl) (fun _ _ _ h=>h) (by rfl) ?hy31 hS0 ?_
  case hy31=>(intro w' hw';obtain⟨hb',k0,k6,o0,o7,nm⟩:=hw';clear hb';go_simp;try with_reducible rfl)
  simp only[zA,zB,zC,Act.put,zD,zE,zF]
  refine rgn.tl (i:=37) (v:=?v32) rfl (by kernel_rfl) (fun _ _ _ h=>h) (by rfl) ?hy32 hS0 ?_
  case hy32=>(intro w' hw';obtain⟨hb',k0,k6,o0,o7,nm⟩:=hw';clear hb';go_simp;try with_reducible rfl)
  simp only[zA,zB,zC,Act.put,zD,zE,zF]
  refine rgn.tl (i:=38) (v:=?v33) rfl (by kernel_rfl) (fun _ _ _ h=>h) (by rfl) ?hy33 hS0 ?_
  case hy33=>(intro w' hw';obtain⟨hb',k0,k6,o0,o7,nm⟩:=hw';clear hb';go_simp;try with_reducible rfl)
  simp only[zA,zB,zC,Act.put,zD,zE,zF]
  refine rgn.tl (i:=39) (v:=?v34) rfl (by kernel_rfl) (fun _ _ _ h=>h) (by rfl) ?hy34 hS0 ?_
  case hy34=>(intro w' hw';obtain⟨hb',k0,k6,o0,o7,nm⟩:=hw';clear hb';go_simp;try with_reducible rfl)
  simp only[zA,zB,zC,Act.put,zD,zE,zF]
  refine rgn.tl (i:=40) (v:=?v35) rfl (by kernel_rfl) (fun _ _ _ h=>h) (by rfl) ?hy35 hS0 ?_
  case hy35=>(intro w' hw';obtain⟨hb',k0,k6,o0,o7,nm⟩:=hw';clear hb';go_simp;try with_reducible rfl)
  simp only[zA,zB,zC,Act.put,zD,zE,zF]
  refine rgn.tl (i:=41) (v:=?v36) rfl (by kernel_rfl) (fun _ _ _ h=>h) (by rfl) ?hy36 hS0 ?_
  case hy36=>(intro w' hw';obtain⟨hb',k0,k6,o0,o7,nm⟩:=hw';clear hb';go_simp;try with_reducible rfl)
  simp only[zA,zB,zC,Act.put,zD,zE,zF]
  refine rgn.tl (i:=42) (v:=?v37) rfl (by kernel_rfl) (fun _ _ _ h=>h) (by rfl) ?hy37 hS0 ?_
  case hy37=>(intro w' hw';obtain⟨hb',k0,k6,o0,o7,nm⟩:=hw';clear hb';go_simp;try with_reducible rfl)
  simp only[zA,zB,zC,Act.put,zD,zE,zF]
  refine rgn.tl (i:=43) (v:=?v38) rfl (by kernel_rfl) (fun _ _ _ h=>h) (by rfl) ?hy38 hS0 ?_
  case hy38=>(intro w' hw';obtain⟨hb',k0,k6,o0,o7,nm⟩:=hw';clear hb';go_simp;try with_reducible rfl)
  simp only[zA,zB,zC,Act.put,zD,zE,zF]
  refine rgn.tl (i:=44) (v:=?v39) rfl (by kernel_rfl) (fun _ _ _ h=>h) (by rfl) ?hy39 hS0 ?_
  case hy39=>(intro w' hw';obtain⟨hb',k0,k6,o0,o7,nm⟩:=hw';clear hb';go_simp;try with_reducible rfl)
  simp only[zA,zB,zC,Act.put,zD,zE,zF]
  refine rgn.tl (i:=45) (v:=?v40) rfl (by kernel_rfl) (fun _ _ _ h=>h) (by rfl) ?hy40 hS0 ?_
  case hy40=>(intro w' hw';obtain⟨hb',k0,k6,o0,o7,nm⟩:=hw';clear hb';go_simp;try with_reducible rfl)
  simp only[zA,zB,zC,Act.put,zD,zE,zF]
  refine rgn.tl (i:=46) (v:=?v41) rfl (by kernel_rfl) (fun _ _ _ h=>h) (by rfl) ?hy41 hS0 ?_
  case hy41=>(intro w' hw';obtain⟨hb',k0,k6,o0,o7,nm⟩:=hw';clear hb';go_simp;try with_reducible rfl)
  simp only[zA,zB,zC,Act.put,zD,zE,zF]
  refine rgn.tl (i:=47) (v:=?v42) rfl (by kernel_rfl) (fun _ _ _ h=>h) (by rfl) ?hy42 hS0 ?_
  case hy42=>(intro w' hw';obtain⟨hb',k0,k6,o0,o7,nm⟩:=hw';clear hb';go_simp;try with_reducible rfl)
  simp only[zA,zB,zC,Act.put,zD,zE,zF]
  refine rgn.tl (i:=48) (v:=?v43) rfl (by kernel_rfl) (fun _ _ _ h=>h) (by rfl) ?hy43 hS0 ?_
  case hy43=>(intro w' hw';obtain⟨hb',k0,k6,o0,o7,nm⟩:=hw';clear hb';go_simp;try with_reducible rfl)
  simp only[zA,zB,zC,Act.put,zD,zE,zF]
  refine rgn.tl (i:=49) (v:=?v44) rfl (by kernel_rfl) (fun _ _ _ h=>h) (by rfl) ?hy44 hS0 ?_
  case hy44=>(intro w' hw';obtain⟨hb',k0,k6,o0,o7,nm⟩:=hw';clear hb';go_simp;try with_reducible rfl)
  simp only[zA,zB,zC,Act.put,zD,zE,zF]
  refine rgn.tl (i:=50) (v:=?v45) rfl (by kernel_rfl) (fun _ _ _ h=>h) (by rfl) ?hy45 hS0 ?_
  case hy45=>(intro w' hw';obtain⟨hb',k0,k6,o0,o7,nm⟩:=hw';clear hb';go_simp;try with_reducible rfl)
  simp only[zA,zB,zC,Act.put,zD,zE,zF]
  refine rgn.tl (i:=51) (v:=?v46) rfl (by kernel_rfl) (fun _ _ _ h=>h) (by rfl) ?hy46 hS0 ?_
  case hy46=>(intro w' hw';obtain⟨hb',k0,k6,o0,o7,nm⟩:=hw';clear hb';go_simp;try with_reducible rfl)
  simp only[zA,zB,zC,Act.put,zD,zE,zF]
  refine rgn.tl (i:=52) (v:=?v47) rfl (by kernel_rfl) (fun _ _ _ h=>h) (by rfl) ?hy47 hS0 ?_
  case hy47=>(intro w' hw';obtain⟨hb',k0,k6,o0,o7,nm⟩:=hw';clear hb';go_simp;try with_reducible rfl)
  simp only[zA,zB,zC,Act.put,zD,zE,zF]
  refine rgn.tl (i:=53) (v:=?v48) rfl (by kernel_rfl) (fun _ _ _ h=>h) (by rfl) ?hy48 hS0 ?_
  case hy48=>(intro w' hw';obtain⟨hb',k0,k6,o0,o7,nm⟩:=hw';clear hb';go_simp;try with_reducible rfl)
  simp only[zA,zB,zC,Act.put,zD,zE,zF]
  refine rgn.tl (i:=54) (v:=?v49) rfl (by kernel_rfl) (fun _ _ _ h=>h) (by rfl) ?hy49 hS0 ?_
  case hy49=>(intro w' hw';obtain⟨hb',k0,k6,o0,o7,nm⟩:=hw';clear hb';go_simp;try with_reducible rfl)
  simp only[zA,zB,zC,Act.put,zD,zE,zF]
  refine rgn.tl (i:=55) (v:=?v50) rfl (by kernel_rfl) (fun _ _ _ h=>h) (by rfl) ?hy50 hS0 ?_
  case hy50=>(intro w' hw';obtain⟨hb',k0,k6,o0,o7,nm⟩:=hw';clear hb';go_simp;try with_reducible rfl)
  simp only[zA,zB,zC,Act.put,zD,zE,zF]
  refine rgn.tl (i:=56) (v:=?v51) rfl (by kernel_rfl) (fun _ _ _ h=>h) (by rfl) ?hy51 hS0 ?_
  case hy51=>(intro w' hw';obtain⟨hb',k0,k6,o0,o7,nm⟩:=hw';clear hb';go_simp;try with_reducible rfl)
  simp only[zA,zB,zC,Act.put,zD,zE,zF]
  refine rgn.tk (i:=57) rfl (by kernel_rfl) (fun _ _ _ h=>h) (yieldsIf_load_mid (by rfl) 29 _ (by rfl) q (oq+1) (by rfl) us2 _ (fun w' hw'=>Row8.below (uh R2) hw'.1) Tryz.underlying29 (by rfl) (uh I2)) hS0 ?_
  simp only[zA,zB,zC,Act.put,zD,zE,zF]
  refine rgn.tk (i:=58) rfl (by kernel_rfl) (fun _ _ _ h=>h) (yieldsIf_load_mid (by rfl) 29 _ (by rfl) Bv (0) (by rfl) cs _ (fun w' hw'=>Row8.below (uh RV) hw'.1) Tryz.underlying29 (by rfl) (uh IV)) hS0 ?_
  simp only[zA,zB,zC,Act.put,zD,zE,zF]
  refine rgn.one (i:=59) _ rfl (by kernel_rfl) (by rfl) ?_
  simp only[zA,zB,zC,Act.put,zD,zE,zF]
  go_wp2_with fail
  refine ((uh AL) us2 cs _ (VlC.below hS0.1 _ _ (uh V2)) (VlC.below hS0.1 _ _ (uh HV))).mono ?_
  rintro e w3 ⟨rfl,g3⟩
  have hS0:=(uh MK) w3 (hS0.1.trans (g3.mono hS0.1.size))
  refine⟨hS0,?_⟩
  obtain⟨hb,-⟩:=hS0
  have hS0:=(uh MK) w3 hb
  clear g3
  refine rgn.tl (i:=60) (v:=?v52) rfl (by kernel_rfl) (fun _ _ _ h=>h) (by rfl) ?hy52 hS0 ?_
  case hy52=>(intro w' hw';clear hw';go_simp;try with_reducible rfl)
  simp only[zA,zB,zC,Act.put,zD,zE,zF]
  refine rgn.tl (i:=61) (v:=?v53) rfl (by kernel_rfl) (fun _ _ _ h=>h) (by rfl) ?hy53 hS0 ?_
  case hy53=>(intro w' hw';clear hw';go_simp;try with_reducible rfl)
  simp only[zA,zB,zC,Act.put,zD,zE,zF]
  refine wpAnyH_done (by kernel_rfl) ?_ _;refine NoPanic.normal ?_
  have B9:Below w.heap.size w w3:=B.trans (Below.mono hb B.size)
  clear hS0
  go_wp2
  go_ret
  exact⟨rfl,B9⟩
end Go.Proofs.YtdogjghalplohaaGreatDoor.jin
